/- What the claims of layer 3 share, part 17: several texts one behind the other. -/
import Derived.Test.YtidcedilfhmllaaDoorZ12
import Derived.Test.YtidcedilfhmllaaDoorZ02
import Derived.Test.YtidcedilfhmllaaDoorZ06
set_option linter.unusedSimpArgs false
set_option linter.unusedVariables false
/- What loops over an iterator ask of the caller's memory; the two lists of classes, kept. -/
namespace Go.Proofs.YtidcedilfhmllaaDoor
open Go.RowKit

theorem butGrown {W W' : World} {row : Option Nat} (h : W.grownBy W' row) : But (fun k => row = some k) W W' := ⟨h.os, h.tape, h.output, h.size, fun k hk hn => h.block k hk (fun e => hn e.symm)⟩
theorem cellGrown {W W' : World} {row : Option Nat} {p : Addr} {x : Value} (hg : W.grownBy W' row) (hr : ∀ r, row = some r → ∃ o : Obj, W.heap[r]? = some o ∧ o.isCells = false) (h : W.cell? p = some x) : W'.cell? p = some x := by
  refine (butGrown hg).kept h (fun e => ?_)
  obtain ⟨o, ho, hc⟩ := hr _ e
  unfold World.cell? at h
  rw [ho] at h
  cases o <;> simp [Obj.isCells] at hc h
/-- a block with a cell holds cells -/
theorem cells_of_cell {W : World} {p : Addr} {x : Value} (h : W.cell? p = some x) {o : Obj} (ho : W.heap[p.block]? = some o) : o.isCells = true := by
  unfold World.cell? at h
  rw [ho] at h
  cases o <;> simp [Obj.isCells] at h ⊢
theorem RowF.but {T : Nat → Prop} {W W' : World} {b N : Nat} {f : Nat → Int} (h : RowF W b N f) (hb : But T W W') (ht : ¬ T b) : RowF W' b N f := fun k hk => by
  obtain ⟨h1, h2⟩ := h k hk
  exact ⟨hb.kept h1 ht, (hb.frozen (p := ⟨b, k, none⟩) (block_lt_of_cell h1) ht).trans h2⟩
theorem UN.but {T : Nat → Prop} {W W' : World} {b3 b4 lb wb N cl cw : Nat} {lf : Nat → Nat} {wf : Nat → Int} (h : UN W b3 b4 lb wb N cl cw lf wf) (hb : But T W W') (h1 : ¬ T b3) (h2 : ¬ T b4) (h3 : ¬ T lb) (h4 : ¬ T wb) : UN W' b3 b4 lb wb N cl cw lf wf :=
  ⟨hb.kept h.c3 h1, hb.kept h.c4 h2, h.l.but hb h3, h.w.but hb h4⟩
theorem keepsU {W W' : World} {lb wb N : Nat} {f g : Nat → Int} (h : But (fun g => g = lb ∨ g = wb) W W') (hl : RowF W lb N f) (hw : RowF W wb N g) (hN : 0 < N) : KeepsOthers W W' :=
  ⟨h.size, fun k o hk ho => by
    have hne : ¬ (k = lb ∨ k = wb) := fun e => by
      rcases e with e | e
      · have := cells_of_cell (hl 0 hN).1 (o := o) (by rw [← e]; exact hk)
        rw [ho] at this; cases this
      · have := cells_of_cell (hw 0 hN).1 (o := o) (by rw [← e]; exact hk)
        rw [ho] at this; cases this
    exact (h.block k (Array.getElem?_eq_some_iff.1 hk).1 hne).trans hk⟩

theorem ownBase {w : World} {base base' : Nat} {e : TypeId} {size : Nat} {v : Value} {n : Nat} {xs : List Value} (h : w.ownsRow base e size v n xs) (hb : base' ≤ base) : w.ownsRow base' e size v n xs := by
  obtain ⟨h1, h2⟩ := h
  refine ⟨h1, ?_⟩
  rcases h2 with h2 | ⟨g, cap, cur, h3, h4, h5⟩
  · exact .inl h2
  · exact .inr ⟨g, cap, cur, h3, Nat.le_trans hb h4, h5⟩
theorem ownBut {T : Nat → Prop} {W W' : World} {base n size : Nat} {e : TypeId} {v : Value} {xs : List Value} (h : W.ownsRow base e size v n xs) (hb : But T W W') (hT : ∀ g, v.ownBlock = some g → ¬ T g) : W'.ownsRow base e size v n xs := by
  obtain ⟨h1, h2⟩ := h
  refine ⟨h1, ?_⟩
  rcases h2 with h2 | ⟨g, cap, cur, hv, hg, hc, hr⟩
  · exact .inl h2
  · refine .inr ⟨g, cap, cur, hv, hg, ?_, hr⟩
    rw [hb.block g (Array.getElem?_eq_some_iff.1 hc).1 (hT g (by rw [hv]; rfl))]
    exact hc
/-- the world in classes -/
structure KC (w W : World) (b3 b4 lb wb N cl cw fb : Nat) (q : List Nat × List Int) (rs : List Nat) : Prop where
  u : UN W b3 b4 lb wb N cl cw (Pl.lsF q.1) (Pl.wsF q.2)
  f3 : W.frozen? ⟨b3, 0, none⟩ = false
  f4 : W.frozen? ⟨b4, 0, none⟩ = false
  f : W.cell? ⟨fb, 0, none⟩ = some (.func (.func 78) #[] #[.pointer (some ⟨b3, 0, none⟩), .pointer (some ⟨b4, 0, none⟩)])
  b : Below w.heap.size w W
  mks : ∀ r ∈ rs, w.heap.size ≤ r ∧ W.heap[r]? = some (.deferred (some []))
/-- where its blocks lie -/
structure KN (w : World) (b3 b4 lb wb fb : Nat) : Prop where
  ne : NE b3 b4 lb wb
  h3 : w.heap.size ≤ b3
  h4 : w.heap.size ≤ b4
  hl : w.heap.size ≤ lb
  hw : w.heap.size ≤ wb
  f1 : fb ≠ lb
  f2 : fb ≠ wb
  b34 : b3 ≠ b4
theorem KC.but {T : Nat → Prop} {w W W' : World} {b3 b4 lb wb N cl cw fb : Nat} {q : List Nat × List Int} {rs : List Nat} (h : KC w W b3 b4 lb wb N cl cw fb q rs) (hb : But T W W') (h0 : ∀ k, k < w.heap.size → ¬ T k) (h1 : ¬ T b3) (h2 : ¬ T b4) (h3 : ¬ T lb) (h4 : ¬ T wb) (h5 : ¬ T fb) (hm : ∀ r ∈ rs, ¬ T r) : KC w W' b3 b4 lb wb N cl cw fb q rs :=
  ⟨h.u.but hb h1 h2 h3 h4, (hb.frozen (p := ⟨b3, 0, none⟩) (block_lt_of_cell h.u.c3) h1).trans h.f3, (hb.frozen (p := ⟨b4, 0, none⟩) (block_lt_of_cell h.u.c4) h2).trans h.f4, hb.kept h.f h5, h.b.trans (hb.below h.b.size h0), fun r hr => ⟨(h.mks r hr).1, (hb.block r (Array.getElem?_eq_some_iff.1 (h.mks r hr).2).1 (hm r hr)).trans (h.mks r hr).2⟩⟩
theorem KC.below {w W W' : World} {b3 b4 lb wb N cl cw fb : Nat} {q : List Nat × List Int} {rs : List Nat} (h : KC w W b3 b4 lb wb N cl cw fb q rs) (hb : Below W.heap.size W W') : KC w W' b3 b4 lb wb N cl cw fb q rs :=
  h.but (T := fun _ => False) ((But.of_below hb).mono (fun _ _ h => h)) (fun _ _ h => h) id id id id id (fun _ _ h => h)
theorem KC.next {w W W' : World} {b3 b4 lb wb N cl cw fb : Nat} {q q' : List Nat × List Int} {rs : List Nat} (h : KC w W b3 b4 lb wb N cl cw fb q rs) (kn : KN w b3 b4 lb wb fb) (hN : 0 < N) (hb : But (fun g => g = lb ∨ g = wb) W W') {lf : Nat → Nat} {wf : Nat → Int} (hu : UN W' b3 b4 lb wb N cl cw lf wf) (h1 : ∀ k, k < N → lf k = Pl.lsF q'.1 k) (h2 : ∀ k, k < N → wf k = Pl.wsF q'.2 k) : KC w W' b3 b4 lb wb N cl cw fb q' rs := by
  have ne := kn.ne
  refine ⟨hu.congr h1 h2, (hb.frozen (p := ⟨b3, 0, none⟩) (block_lt_of_cell h.u.c3) (fun e => e.elim ne.n2 ne.n3)).trans h.f3, (hb.frozen (p := ⟨b4, 0, none⟩) (block_lt_of_cell h.u.c4) (fun e => e.elim ne.n4 ne.n5)).trans h.f4, hb.kept h.f (fun e => e.elim kn.f1 kn.f2), h.b.trans (hb.below h.b.size (fun k hk e => by have := kn.hl; have := kn.hw; omega)), fun r hr => ⟨(h.mks r hr).1, ?_⟩⟩
  refine (hb.block r (Array.getElem?_eq_some_iff.1 (h.mks r hr).2).1 (fun e => ?_)).trans (h.mks r hr).2
  rcases e with e | e
  · have := cells_of_cell (h.u.l 0 hN).1 (o := _) (by rw [← e]; exact (h.mks r hr).2)
    cases this
  · have := cells_of_cell (h.u.w 0 hN).1 (o := _) (by rw [← e]; exact (h.mks r hr).2)
    cases this
theorem KC.mark {w W : World} {b3 b4 lb wb N cl cw fb : Nat} {q : List Nat × List Int} {rs : List Nat} (h : KC w W b3 b4 lb wb N cl cw fb q rs) {E : Nat} (hE : w.heap.size ≤ E) (hD : W.heap[E]? = some (.deferred (some []))) : KC w W b3 b4 lb wb N cl cw fb q (E :: rs) :=
  ⟨h.u, h.f3, h.f4, h.f, h.b, fun r hr => (List.mem_cons.1 hr).elim (fun e => e ▸ ⟨hE, hD⟩) (h.mks r)⟩

/-- what the loop over a sign's cells keeps -/
def KI (w : World) (S b3 b4 lb wb N cl cw fb wy b2 b5 s t : Nat) (G : List (Nat × Bool)) (m : Bool) (rs : List Nat) (pre : List (Nat × Nat)) (W : World) : Prop :=
  KC w W b3 b4 lb wb N cl cw fb (Pl.clsTo s G m pre) rs ∧ W.cell? ⟨wy, 0, none⟩ = some (.int .i64 (Pl.sg m)) ∧ MK b2 b5 s t W ∧
    (∀ r ∈ rs, r < S) ∧ (b3 < S ∧ b4 < S ∧ lb < S ∧ wb < S ∧ fb < S ∧ w.heap.size ≤ S)
theorem ki_own (w : World) (S b3 b4 lb wb N cl cw fb wy b2 b5 s t : Nat) (G : List (Nat × Bool)) (m : Bool) (rs : List Nat) : OwnFrom S (KI w S b3 b4 lb wb N cl cw fb wy b2 b5 s t G m rs) := by
  intro pre W W' row ⟨h1, h2, h3, h4, h5⟩ hg hr
  have hr2 : ∀ r, row = some r → ∃ o : Obj, W.heap[r]? = some o ∧ o.isCells = false := fun r e => (hr r e).2
  have far : ∀ k, k < S → ¬ row = some k := fun k hk e => by have := (hr k e).1; omega
  exact ⟨h1.but (butGrown hg) (fun k hk e => far k (by omega) e) (far _ (by omega)) (far _ (by omega)) (far _ (by omega)) (far _ (by omega)) (far _ (by omega)) (fun r hm => far r (h4 r hm)), cellGrown hg hr2 h2, ⟨cellGrown hg hr2 h3.c, cellGrown hg hr2 h3.f0, cellGrown hg hr2 h3.f1⟩, h4, h5⟩
theorem ownForm {w : World} {base n size : Nat} {e : TypeId} {v : Value} {xs : List Value} (h : w.ownsRow base e size v n xs) : ∃ p cp, v = .slice p n cp := by
  rcases h.2 with ⟨hv, h0⟩ | ⟨g, cap, cur, hv, _⟩
  · exact ⟨none, 0, by rw [hv, h0]⟩
  · exact ⟨_, cap, hv⟩
theorem entC : ∀ args W, (callFunc 78 args).run Tryd.prog W = .ok (.enter 78 args) W := fun args W => Go.Proofs.enters_of Tryd.func78 (by kernel_rfl) rfl args W
end Go.Proofs.YtidcedilfhmllaaDoor
