/- What the claims of layer 3 share, part 19: several texts one behind the other. -/
import Derived.Test.YtidcedilfhmllaaDoorZ03
import Derived.Test.YtidcedilfhmllaaDoorZ17
import Derived.Test.YtidcedilfhmllaaDoorZ15
import Derived.Test.YtidcedilfhmllaaDoorZ12
import Derived.Test.YtidcedilfhmllaaDoorZ13
import Derived.Test.YtidcedilfhmllaaDoorZ16
import Derived.Maps.AppendAt
import Derived.BigRegion
import Derived.Test.YtidcedilfhmllaaDoorZ14
import Derived.Test.YtidcedilfhmllaaDoorZ06
set_option linter.unusedSimpArgs false
set_option linter.unusedVariables false
/- Contracts of package plate: walksFrom. -/
namespace Go.Proofs.YtidcedilfhmllaaDoor
open Go.RowKit

def stCells (Y : List Pl.St) : List Value := Y.flatMap fun y => [.int .i64 y.p, .int .i64 (y.t : Int), .bool y.m]
theorem stCells_append (L L2 : List Pl.St) : stCells (L ++ L2) = stCells L ++ stCells L2 := by unfold stCells; rw [List.flatMap_append]
theorem stCells_one (g : Pl.St) : stCells [g] = [.int .i64 g.p, .int .i64 (g.t : Int), .bool g.m] := rfl
theorem stCells_len (L : List Pl.St) : (stCells L).length = L.length * 3 := by
  induction L with
  | nil => rfl
  | cons l r ih => unfold stCells at *; rw [List.flatMap_cons, List.length_append, ih]; simp; omega
theorem stCells_get : ∀ {L : List Pl.St} {k : Nat} {y : Pl.St}, L[k]? = some y → (stCells L)[k * 3]? = some (.int .i64 y.p) ∧ (stCells L)[k * 3 + 1]? = some (.int .i64 (y.t : Int)) ∧ (stCells L)[k * 3 + 2]? = some (.bool y.m)
  | [], _, _, h => by simp at h
  | l :: r, 0, y, h => by simp at h; subst h; exact ⟨rfl, rfl, rfl⟩
  | l :: r, k + 1, y, h => by
    have ih := stCells_get (L := r) (k := k) (y := y) (by simpa using h)
    have e : stCells (l :: r) = .int .i64 l.p :: .int .i64 (l.t : Int) :: .bool l.m :: stCells r := rfl
    have e0 : (k + 1) * 3 = k * 3 + 1 + 1 + 1 := by omega
    rw [e, e0]
    simp only [List.getElem?_cons_succ]
    exact ⟨ih.1, ih.2.1, ih.2.2⟩
/-- states in a row, wherever they lie -/
def StsAt (w : World) (a : Option Addr) (Y : List Pl.St) : Prop := ∀ (k : Nat) (y : Pl.St), Y[k]? = some y → ∃ x, a = some x ∧ w.cell? (x.add (k * 3)) = some (.int .i64 y.p) ∧ w.cell? ⟨(x.add (k * 3)).block, (x.add (k * 3)).off + 1, none⟩ = some (.int .i64 (y.t : Int)) ∧ w.cell? ⟨(x.add (k * 3)).block, (x.add (k * 3)).off + 2, none⟩ = some (.bool y.m)
theorem StsAt.below {w W : World} {a : Option Addr} {Y : List Pl.St} (h : StsAt w a Y) (hb : Below w.heap.size w W) : StsAt W a Y := fun k y hk => by
  obtain ⟨x, rfl, h1, h2, h3⟩ := h k y hk
  exact ⟨x, rfl, kept1 h1 hb, kept1 h2 hb, kept1 h3 hb⟩
theorem sts_of_owns {w : World} {B : Nat} {v : Value} {Y : List Pl.St} {n : Nat} (hn : Y.length = n) (h : w.ownsRow B 111 3 v n (stCells Y)) : ∃ a cap, v = .slice a n cap ∧ StsAt w a Y := by
  obtain ⟨_, h2⟩ := h
  rcases h2 with ⟨hv, h0⟩ | ⟨g, cap, cur, hv, hb, hg, hle, hcm, hs, ht⟩
  · refine ⟨none, 0, by rw [hv, h0], fun k y hk => ?_⟩
    have := (List.getElem?_eq_some_iff.1 hk).1
    omega
  · refine ⟨_, cap, hv, fun k y hk => ⟨_, rfl, ?_⟩⟩
    have hc : ∀ j u, (stCells Y)[j]? = some u → w.cell? ⟨g, j, none⟩ = some u := by
      intro j u hu
      have hj : j < n * 3 := by rw [← hn, ← stCells_len]; exact (List.getElem?_eq_some_iff.1 hu).1
      rw [← ht, List.getElem?_take_of_lt hj, Array.getElem?_toList] at hu
      simp [World.cell?, hg, hu]
    obtain ⟨g1, g2, g3⟩ := stCells_get hk
    have e : (⟨g, 0, none⟩ : Addr).add (k * 3) = ⟨g, k * 3, none⟩ := by unfold Addr.add; split <;> simp_all
    rw [e]
    exact ⟨hc _ _ g1, hc _ _ g2, hc _ _ g3⟩

/-- the world in walksFrom -/
structure WSt (w W : World) (s m : Int) (a : Option Addr) (q cap : Nat) (Y : List Pl.St) (f : Pl.St → Option (Pl.St × Int)) (mb wb : Nat) : Prop where
  s0 : W.cell? ⟨w.heap.size, 0, none⟩ = some (.int .i64 s)
  s1 : W.cell? ⟨w.heap.size, 1, none⟩ = some (.int .i64 m)
  s2 : W.cell? ⟨w.heap.size, 2, none⟩ = some (.slice a q cap)
  r : W.rowIs (w.heap.size + 1) 92 2 (fun i => if i = 0 then .slice none 0 0 else .map none)
  o : ∃ v, W.cell? ⟨wb, 0, none⟩ = some v ∧ W.ownsRow (w.heap.size + 3) 111 3 v Y.length (stCells Y) ∧ v.ownBlock ≠ some mb ∧ v.ownBlock ≠ some wb
  m1 : W.cell? ⟨wb, 1, none⟩ = some (.map (some mb))
  f0 : W.frozen? ⟨wb, 0, none⟩ = false
  am : ∃ n, AM W mb n f
  b : Below w.heap.size w W
  hm : w.heap.size + 3 ≤ mb
  hw : w.heap.size + 3 ≤ wb
theorem WSt.ne {w W : World} {s m : Int} {a : Option Addr} {q cap : Nat} {Y : List Pl.St} {f : Pl.St → Option (Pl.St × Int)} {mb wb : Nat} (h : WSt w W s m a q cap Y f mb wb) : wb ≠ mb := fun e => by
  obtain ⟨_, es, cl, hh, _⟩ := h.am
  have := cells_of_cell h.m1 (o := _) (by rw [← e] at hh; exact hh)
  cases this
theorem WSt.but {T : Nat → Prop} {w W W' : World} {s m : Int} {a : Option Addr} {q cap : Nat} {Y : List Pl.St} {f f' : Pl.St → Option (Pl.St × Int)} {mb wb : Nat} (h : WSt w W s m a q cap Y f mb wb) (hb : But T W W') (h0 : ∀ k, k < w.heap.size + 3 → ¬ T k) (hw : ¬ T wb) (ho : ∀ v g, W.cell? ⟨wb, 0, none⟩ = some v → v.ownBlock = some g → ¬ T g) (ha : ∃ n, AM W' mb n f') : WSt w W' s m a q cap Y f' mb wb := by
  obtain ⟨v, d0, o, n1, n2⟩ := h.o
  exact ⟨hb.kept h.s0 (h0 _ (by simp only; omega)), hb.kept h.s1 (h0 _ (by simp only; omega)), hb.kept h.s2 (h0 _ (by simp only; omega)), hb.row h.r (h0 _ (by omega)), ⟨v, hb.kept d0 hw, ownBut o hb (ho v · d0), n1, n2⟩, hb.kept h.m1 hw, (hb.frozen (p := ⟨wb, 0, none⟩) (block_lt_of_cell d0) hw).trans h.f0, ha, h.b.trans (hb.below h.b.size (fun k hk => h0 k (by omega))), h.hm, h.hw⟩
theorem WSt.below {w W W' : World} {s m : Int} {a : Option Addr} {q cap : Nat} {Y : List Pl.St} {f : Pl.St → Option (Pl.St × Int)} {mb wb : Nat} (h : WSt w W s m a q cap Y f mb wb) (hb : Below W.heap.size W W') : WSt w W' s m a q cap Y f mb wb := by
  obtain ⟨n, ha⟩ := h.am
  exact h.but (T := fun _ => False) ((But.of_below hb).mono (fun _ _ h => h)) (fun _ _ h => h) id (fun _ _ _ _ h => h) ⟨n, ha.below hb⟩
theorem WSt.put {w W W' : World} {s m : Int} {a : Option Addr} {q cap : Nat} {Y : List Pl.St} {f f' : Pl.St → Option (Pl.St × Int)} {mb wb n : Nat} (h : WSt w W s m a q cap Y f mb wb) (ht : W.mapTurned W' mb) (ha : AM W' mb n f') : WSt w W' s m a q cap Y f' mb wb := by
  have hm := h.hm
  obtain ⟨v0, d1, _, n1, _⟩ := h.o
  refine h.but (T := fun k => k = mb) ⟨ht.grown.os, ht.grown.tape, ht.grown.output, ht.grown.size, fun k _ hk => turned_block ht hk⟩ (fun k hk e => by omega) h.ne (fun v g d hv e => ?_) ⟨n, ha⟩
  rw [d1] at d
  obtain rfl := Option.some.inj d
  exact n1 (by rw [hv, e])
theorem WSt.app {w W w4 : World} {s m : Int} {a : Option Addr} {q cap : Nat} {Y : List Pl.St} {f : Pl.St → Option (Pl.St × Int)} {mb wb : Nat} (h : WSt w W s m a q cap Y f mb wb) {v v' : Value} {o : Obj} (d : W.cell? ⟨wb, 0, none⟩ = some v) {y : Pl.St}
    (hown : w4.ownsRow (w.heap.size + 3) 111 3 v' (Y.length + 1) (stCells Y ++ [.int .i64 y.p, .int .i64 (y.t : Int), .bool y.m])) (hgrow : (W.alloc o).grownBy w4 v.ownBlock) (hat : v'.ownBlock = v.ownBlock ∨ v'.ownBlock = some (W.heap.size + 1)) :
    w4.cell? ⟨wb, 0, none⟩ = some v ∧ w4.frozen? ⟨wb, 0, none⟩ = false ∧ WSt w (w4.setCell ⟨wb, 0, none⟩ v') s m a q cap (Y ++ [y]) f mb wb := by
  obtain ⟨v0, d1, ho, n1, n2⟩ := h.o
  rw [d] at d1
  obtain rfl := Option.some.inj d1
  obtain ⟨n, ha⟩ := h.am
  have hA := h.below (below_alloc (Below.refl W.heap.size W) o)
  have hbt := butGrown hgrow
  have hm := h.hm
  have hw := h.hw
  have hmw := h.ne
  have wlt := block_lt_of_cell d
  have mlt := ha.lt
  simp only at wlt
  have hfar : ∀ k, k < w.heap.size + 3 → ¬ v.ownBlock = some k := fun k hk e => by have := ownFar ho e; omega
  have q0 := hbt.kept hA.m1 n2
  have c0 := hbt.kept (cell_alloc d o) n2
  have q1 := (hbt.frozen (p := ⟨wb, 0, none⟩) (block_lt_of_cell (cell_alloc d o)) n2).trans hA.f0
  have e1 : stCells (Y ++ [y]) = stCells Y ++ [.int .i64 y.p, .int .i64 (y.t : Int), .bool y.m] := by rw [stCells_append]; rfl
  have nv : ∀ g, v'.ownBlock = some g → g ≠ mb ∧ g ≠ wb := fun g hg => by
    rcases hat with hh | hh
    · exact ⟨fun e => n1 (by rw [← hh, hg, e]), fun e => n2 (by rw [← hh, hg, e])⟩
    · rw [hh] at hg
      have := Option.some.inj hg
      omega
  have hbs : But (fun k => k = wb) w4 (w4.setCell ⟨wb, 0, none⟩ v') := (But.refl (fun k => k = wb) w4).setCell (p := ⟨wb, 0, none⟩) (.inr rfl) _
  have hall : But (fun k => v.ownBlock = some k ∨ k = wb) (W.alloc o) (w4.setCell ⟨wb, 0, none⟩ v') := (hbt.mono (fun _ _ h => .inl h)).trans (hbs.mono (fun _ _ h => .inr h))
  have h0 : ∀ k, k < w.heap.size + 3 → ¬ (v.ownBlock = some k ∨ k = wb) := fun k hk e => e.elim (hfar k hk) (fun e => by omega)
  refine ⟨c0, q1, ⟨hall.kept hA.s0 (h0 _ (by simp only; omega)), hall.kept hA.s1 (h0 _ (by simp only; omega)), hall.kept hA.s2 (h0 _ (by simp only; omega)), hall.row hA.r (h0 _ (by omega)), ⟨v', ?_, ?_, fun e => (nv _ e).1 rfl, fun e => (nv _ e).2 rfl⟩, ?_, ?_, ⟨n, ?_⟩, hA.b.trans (hall.below hA.b.size (fun k hk => h0 k (by omega))), h.hm, h.hw⟩⟩
  · simp [go_sem, c0]
  · rw [e1, List.length_append]
    exact ownBut hown hbs (fun g hg => (nv g hg).2)
  · exact (World.cell?_setCell_other _ _ _ _ (by simp)).trans q0
  · simp [go_sem, q1]
  · obtain ⟨n', ha'⟩ := hA.am
    exact (ha.below (below_alloc (Below.refl _ _) o)).kept (hall.block mb (by simp; omega) (fun e => e.elim n1 (fun e => hmw e.symm)))
/-- the state whose steps are tried, in its box -/
structure AtS (W : World) (ab wb : Nat) (y : Pl.St) : Prop where
  r : SA W ab y
  v : ∃ v, W.cell? ⟨wb, 0, none⟩ = some v ∧ v.ownBlock ≠ some ab
theorem AtS.but {T : Nat → Prop} {W W' : World} {ab wb : Nat} {y : Pl.St} (h : AtS W ab wb y) (hb : But T W W') (h1 : ¬ T ab) (h2 : ¬ T wb) : AtS W' ab wb y := by
  obtain ⟨v, d, n⟩ := h.v
  exact ⟨hb.row h.r h1, v, hb.kept d h2, n⟩
theorem AtS.below {W W' : World} {ab wb : Nat} {y : Pl.St} (h : AtS W ab wb y) (hb : Below W.heap.size W W') : AtS W' ab wb y := h.but (T := fun _ => False) ((But.of_below hb).mono (fun _ _ h => h)) id id
theorem AtS.app {W w4 : World} {ab wb : Nat} {y : Pl.St} (h : AtS W ab wb y) (hwb : wb < ab) {v v' : Value} {o : Obj} (d : W.cell? ⟨wb, 0, none⟩ = some v) (hgrow : (W.alloc o).grownBy w4 v.ownBlock) (hat : v'.ownBlock = v.ownBlock ∨ v'.ownBlock = some (W.heap.size + 1)) (q0 : w4.cell? ⟨wb, 0, none⟩ = some v) : AtS (w4.setCell ⟨wb, 0, none⟩ v') ab wb y := by
  obtain ⟨v0, d0, n⟩ := h.v
  rw [d] at d0
  obtain rfl := Option.some.inj d0
  have hlt := h.r.lt
  have hA := h.below (below_alloc (Below.refl W.heap.size W) o)
  have hr := (butGrown hgrow).row hA.r n
  refine ⟨(((But.refl (fun k => k = wb) w4).setCell (p := ⟨wb, 0, none⟩) (.inr rfl) v').row hr (fun e => by omega)), v', by simp [go_sem, q0], fun e => ?_⟩
  rcases hat with hh | hh
  · exact n (by rw [← hh, e])
  · rw [hh] at e
    have := Option.some.inj e
    omega
theorem am_fresh {W : World} {b : Nat} (h : W.heap[b]? = some (.map #[] 0)) : AM W b 0 (fun _ => none) :=
  ⟨#[], 0, h, Nat.le_refl _, fun e he => by simp at he, fun y a h => by cases h⟩
theorem wpList_insert_am {w : World} {ops : Array Oper} {rest : List Oper} {o : Oper} {a : Act} {Q : Exit → Act → World → Prop} (hg : o.guard = none) (m k v : Operand)
    (ho : o.op = Op.insert 90 m k v) (b n : Nat) (f : Pl.St → Option (Pl.St × Int)) (hm : a.eval m = .map (some b)) (y : Pl.St) (hk : a.eval k = stV y) (c : Pl.St × Int) (hv : a.eval v = arV c) (hA : AM w b n f) (hy : KS y) (hf : f y = none)
    (h : ∀ W', AM W' b (n + 1) (fun z => if z = y then some c else f z) → w.mapTurned W' b → wpList Tryd.prog ops Q rest (a.put o.dst undef) W') : wpList Tryd.prog ops Q (o :: rest) a w := by
  obtain ⟨W', hr, h1, h2⟩ := hA.put hy hf c
  refine wpList_plain hg fun K hK => ?_
  unfold Oper.wp
  simp [execOp, ho, hm, hk, hv, hr, Result.andThen]
  exact hK _ _ (h W' h1 h2)

def stObj (p : Int) : Obj := .cells #[.int .i64 p, .int .i64 0, .bool false] 111
/-- what has been made of a slice, a map and a box -/
structure R2 (p : Int) (X W : World) (A : Option Nat) (M : Option (Nat × Bool)) (B : Option Nat) : Prop where
  b : Below X.heap.size X W
  a : ∀ g, A = some g → X.heap.size ≤ g ∧ W.heap[g]? = some (stObj p)
  m : ∀ g i, M = some (g, i) → X.heap.size ≤ g ∧ AM W g (if i = true then 1 else 0) (fun z => if i = true then (if z = Pl.start p then some ar0 else none) else none)
  w : ∀ g, B = some g → X.heap.size ≤ g ∧ W.rowIs g 92 2 (fun i => if i = 0 then .slice none 0 0 else .map none)
theorem R2.new (p : Int) (X : World) : R2 p X X none none none := ⟨Below.refl _ _, fun _ h => by (cases h), fun _ _ h => by (cases h), fun _ h => by (cases h)⟩
theorem heap_old {W : World} {o : Obj} {g : Nat} {u : Obj} (h : W.heap[g]? = some u) : (W.alloc o).heap[g]? = some u :=
  ((below_alloc (Below.refl W.heap.size W) o).block g (Array.getElem?_eq_some_iff.1 h).1).trans h
theorem R2.keep {p : Int} {X W : World} {A : Option Nat} {M : Option (Nat × Bool)} {B : Option Nat} (h : R2 p X W A M B) (o : Obj) : R2 p X (W.alloc o) A M B :=
  ⟨below_alloc h.b o, fun g hg => ⟨(h.a g hg).1, heap_old (h.a g hg).2⟩, fun g i hg => ⟨(h.m g i hg).1, (h.m g i hg).2.below (below_alloc (Below.refl _ _) o)⟩, fun g hg => ⟨(h.w g hg).1, (h.w g hg).2.alloc o⟩⟩
theorem R2.newA {p : Int} {X W : World} {M : Option (Nat × Bool)} {B : Option Nat} (h : R2 p X W none M B) : R2 p X (W.alloc (Obj.cells #[.int .i64 p, .int .i64 0, .bool false] 111)) (some W.heap.size) M B :=
  ⟨(h.keep _).b, fun g hg => by obtain rfl := Option.some.inj hg; exact ⟨h.b.size, World.alloc_heap_new W _⟩, (h.keep _).m, (h.keep _).w⟩
theorem R2.newM {p : Int} {X W : World} {A : Option Nat} {B : Option Nat} (h : R2 p X W A none B) : R2 p X (W.alloc (Obj.map #[] 0)) A (some (W.heap.size, false)) B :=
  ⟨(h.keep _).b, (h.keep _).a, fun g i hg => by
    obtain ⟨rfl, rfl⟩ := Prod.mk.inj (Option.some.inj hg)
    exact ⟨h.b.size, am_fresh (World.alloc_heap_new W _)⟩, (h.keep _).w⟩
theorem R2.newB {p : Int} {X W : World} {A : Option Nat} {M : Option (Nat × Bool)} (h : R2 p X W A M none) : R2 p X (W.alloc (Obj.cells #[.slice none 0 0, .map none] 92)) A M (some W.heap.size) :=
  ⟨(h.keep _).b, (h.keep _).a, (h.keep _).m, fun g hg => by
    obtain rfl := Option.some.inj hg
    exact ⟨h.b.size, World.rowIs_alloc W _ _ _ (fun i hi => by
      match i, hi with
      | 0, _ => rfl
      | 1, _ => rfl)⟩⟩
theorem R2.ins {p : Int} {X W : World} {A : Option Nat} {g : Nat} {B : Option Nat} (h : R2 p X W A (some (g, false)) B) (hKS : KS (Pl.start p)) :
    ∃ W', (Instr.mapUpdate 90 (.map (some g)) (.agg #[.int .i64 p, .int .i64 0, .bool false]) (.agg #[.int .i64 0, .int .i64 0, .bool false, .int .i64 0])).run Tryd.prog W = .ok () W' ∧ R2 p X W' A (some (g, true)) B := by
  obtain ⟨hg, hA⟩ := h.m g false rfl
  obtain ⟨W', hr, h1, h2⟩ := hA.put hKS rfl ar0
  have nb : ∀ k, (∃ cs t, W.heap[k]? = some (.cells cs t)) → k ≠ g := fun k ⟨cs, t, hk⟩ e => by
    obtain ⟨es, clock, hm, _⟩ := hA
    rw [e, hm] at hk
    cases hk
  refine ⟨W', hr, (h.b).trans (turned_below h2 hg), fun k hk => ⟨(h.a k hk).1, (turned_block h2 (nb k ⟨_, _, (h.a k hk).2⟩)).trans (h.a k hk).2⟩, fun k i hk => ?_, fun k hk => ⟨(h.w k hk).1, ?_⟩⟩
  · obtain ⟨rfl, rfl⟩ := Prod.mk.inj (Option.some.inj hk)
    exact ⟨hg, h1⟩
  · obtain ⟨_, hrow⟩ := h.w k hk
    refine hrow.of_block (turned_block h2 (nb k ?_))
    obtain ⟨cs, hc, _⟩ := hrow
    exact ⟨cs, _, hc⟩
theorem R2.c0 {p : Int} {X W : World} {A : Option Nat} {M : Option (Nat × Bool)} {B : Option Nat} (h : R2 p X W A M B) (g : Nat) (hg : B = some g) : W.cell? ⟨g, 0, none⟩ = some (.slice none 0 0) := (h.w g hg).2.cell (i := 0) (by omega)
theorem R2.c1 {p : Int} {X W : World} {A : Option Nat} {M : Option (Nat × Bool)} {B : Option Nat} (h : R2 p X W A M B) (g : Nat) (hg : B = some g) : W.cell? ⟨g, 1, none⟩ = some (.map none) := (h.w g hg).2.cell (i := 1) (by omega)
theorem R2.f0 {p : Int} {X W : World} {A : Option Nat} {M : Option (Nat × Bool)} {B : Option Nat} (h : R2 p X W A M B) (g : Nat) (hg : B = some g) : W.frozen? ⟨g, 0, none⟩ = false := (h.w g hg).2.frozen 0
theorem R2.f1 {p : Int} {X W : World} {A : Option Nat} {M : Option (Nat × Bool)} {B : Option Nat} (h : R2 p X W A M B) (g : Nat) (hg : B = some g) : W.frozen? ⟨g, 1, none⟩ = false := (h.w g hg).2.frozen 1
/-- the walks as they are begun with -/
structure R3 (p : Int) (X W : World) (sb mb wb : Nat) : Prop where
  b : Below X.heap.size X W
  o : W.ownsRow X.heap.size 111 3 (.slice (some ⟨sb, 0, none⟩) 1 1) 1 (stCells [Pl.start p])
  am : AM W mb 1 (fun z => if z = Pl.start p then some ar0 else none)
  w0 : W.cell? ⟨wb, 0, none⟩ = some (.slice (some ⟨sb, 0, none⟩) 1 1)
  w1 : W.cell? ⟨wb, 1, none⟩ = some (.map (some mb))
  f0 : W.frozen? ⟨wb, 0, none⟩ = false
  hm : X.heap.size ≤ mb
  hw : X.heap.size ≤ wb
  n1 : sb ≠ mb
  n2 : sb ≠ wb
theorem R2.fin {p : Int} {X W : World} {sb mb wb : Nat} (h : R2 p X W (some sb) (some (mb, true)) (some wb)) : R3 p X ((W.setCell ⟨wb, 0, none⟩ (.slice (some ⟨sb, 0, none⟩) 1 1)).setCell ⟨wb, 1, none⟩ (.map (some mb))) sb mb wb := by
  obtain ⟨ha, ca⟩ := h.a sb rfl
  obtain ⟨hm, cm⟩ := h.m mb true rfl
  obtain ⟨hw, cw⟩ := h.w wb rfl
  obtain ⟨cs, hcw, _⟩ := id cw
  have n2 : sb ≠ wb := fun e => by
    rw [e, hcw] at ca
    have := Option.some.inj ca
    simp only [stObj, Obj.cells.injEq] at this
    exact absurd this.2 (by decide)
  have n1 : sb ≠ mb := fun e => by
    obtain ⟨es, cl, hh, _⟩ := cm
    rw [e, hh] at ca
    cases ca
  have n3 : mb ≠ wb := fun e => by
    obtain ⟨es, cl, hh, _⟩ := cm
    rw [e, hcw] at hh
    cases hh
  have r2 := (cw.set 0 (.slice (some ⟨sb, 0, none⟩) 1 1)).set 1 (.map (some mb))
  have ho : W.ownsRow X.heap.size 111 3 (.slice (some ⟨sb, 0, none⟩) 1 1) 1 (stCells [Pl.start p]) :=
    ⟨rfl, .inr ⟨sb, 1, #[.int .i64 p, .int .i64 0, .bool false], rfl, ha, ca, Nat.le_refl _, by unfold maxLen; omega, rfl, rfl⟩⟩
  refine ⟨(h.b.setCell (p := ⟨wb, 0, none⟩) hw _).setCell (p := ⟨wb, 1, none⟩) hw _, ?_, ?_, r2.cell (i := 0) (by omega), r2.cell (i := 1) (by omega), r2.frozen 0, hm, hw, n1, n2⟩
  · have hB : But (fun k => k = wb) W ((W.setCell ⟨wb, 0, none⟩ (.slice (some ⟨sb, 0, none⟩) 1 1)).setCell ⟨wb, 1, none⟩ (.map (some mb))) := ((But.refl (fun k => k = wb) W).setCell (p := ⟨wb, 0, none⟩) (.inr rfl) _).setCell (p := ⟨wb, 1, none⟩) (.inr rfl) _
    obtain ⟨h1, h2⟩ := ho
    refine ⟨h1, .inr ⟨sb, 1, #[.int .i64 p, .int .i64 0, .bool false], rfl, ha, ?_, Nat.le_refl _, by unfold maxLen; omega, rfl, rfl⟩⟩
    exact (hB.block sb (Array.getElem?_eq_some_iff.1 ca).1 n2).trans ca
  · exact (cm.set ⟨wb, 0, none⟩ n3 _).set ⟨wb, 1, none⟩ n3 _

theorem infoSt : (Tryd.prog.info? 111).map (fun i => (i.zero, i.size, i.bytes)) = some (some (.agg #[.int .i64 0, .int .i64 0, .bool false]), 3, 24) := by kernel_rfl
/-- what walksFrom leaves -/
def WaPost (w : World) (L : List Pl.Wk) (p : Int) (e : Ending) (w' : World) : Prop :=
  ∃ a n cap mb f, e = .returned (.agg #[.slice a n cap, .map (some mb)]) ∧ n = (Pl.ways L p).length ∧ Hid (StsAt w' a ((Pl.ways L p).map Prod.fst)) ∧ Hid (∃ k, AM w' mb k f) ∧ Hid (Pl.AccF (Pl.ways L p) f) ∧ Below w.heap.size w w'

set_option maxRecDepth 100000 in
set_option maxHeartbeats 8000000 in
theorem walksFrom_any (s m : Int) (hm1 : m ≤ 6) (a : Option Addr) (q cap : Nat) (L : List Pl.Wk) (hq : L.length = q) (hq2 : q ≤ 16) (hok : Hid (Pl.Ok m L)) (p : Int) (hp : 0 ≤ p ∧ p < m) (w : World) (hL : Hid (WksAt w a L)) :
    Calls Tryd.prog 50 #[.agg #[.int .i64 s, .int .i64 m, .slice a q cap], .int .i64 p] w (WaPost w L p) := by
  obtain ⟨i0, hi, hz0, hz1, hz2⟩ := info_parts infoSt
  have hmm : ∀ (t : TypeId) (w : World), (Instr.makeMap t none).run Tryd.prog w = .ok (.map (some w.heap.size)) (w.alloc (.map #[] 0)) := fun _ _ => rfl
  go_enter Tryd.func50, Tryd.ntmps50
  go_upto_region 2 with fail
  have hX0 : (((w.alloc (Obj.cells #[.int .i64 s, .int .i64 m, .slice a q cap] 34)).alloc (Obj.cells #[.slice none 0 0, .map none] 92)).alloc (Obj.cells #[.int .i64 p, .int .i64 0, .bool false] 111)).heap.size = w.heap.size + 3 := by simp
  have b5 : SA (((w.alloc (Obj.cells #[.int .i64 s, .int .i64 m, .slice a q cap] 34)).alloc (Obj.cells #[.slice none 0 0, .map none] 92)).alloc (Obj.cells #[.int .i64 p, .int .i64 0, .bool false] 111)) (w.heap.size + 2) (Pl.start p) := by
    have h := sa_new ((w.alloc (Obj.cells #[.int .i64 s, .int .i64 m, .slice a q cap] 34)).alloc (Obj.cells #[.slice none 0 0, .map none] 92)) (Pl.start p)
    simpa [Pl.start] using h
  have hB : Below w.heap.size w (((w.alloc (Obj.cells #[.int .i64 s, .int .i64 m, .slice a q cap] 34)).alloc (Obj.cells #[.slice none 0 0, .map none] 92)).alloc (Obj.cells #[.int .i64 p, .int .i64 0, .bool false] 111)) := below_alloc (below_alloc (below_alloc (Below.refl _ _) _) _) _
  have c0 : (((w.alloc (Obj.cells #[.int .i64 s, .int .i64 m, .slice a q cap] 34)).alloc (Obj.cells #[.slice none 0 0, .map none] 92)).alloc (Obj.cells #[.int .i64 p, .int .i64 0, .bool false] 111)).cell? ⟨w.heap.size, 0, none⟩ = some (.int .i64 s) := by simp [go_sem]
  have c1 : (((w.alloc (Obj.cells #[.int .i64 s, .int .i64 m, .slice a q cap] 34)).alloc (Obj.cells #[.slice none 0 0, .map none] 92)).alloc (Obj.cells #[.int .i64 p, .int .i64 0, .bool false] 111)).cell? ⟨w.heap.size, 1, none⟩ = some (.int .i64 m) := by simp [go_sem]
  have c2 : (((w.alloc (Obj.cells #[.int .i64 s, .int .i64 m, .slice a q cap] 34)).alloc (Obj.cells #[.slice none 0 0, .map none] 92)).alloc (Obj.cells #[.int .i64 p, .int .i64 0, .bool false] 111)).cell? ⟨w.heap.size, 2, none⟩ = some (.slice a q cap) := by simp [go_sem]
  have rW : (((w.alloc (Obj.cells #[.int .i64 s, .int .i64 m, .slice a q cap] 34)).alloc (Obj.cells #[.slice none 0 0, .map none] 92)).alloc (Obj.cells #[.int .i64 p, .int .i64 0, .bool false] 111)).rowIs (w.heap.size + 1) 92 2 (fun i => if i = 0 then .slice none 0 0 else .map none) := by
    have h := (World.rowIs_alloc (w.alloc (Obj.cells #[.int .i64 s, .int .i64 m, .slice a q cap] 34)) #[.slice none 0 0, .map none] 92 (fun i => if i = 0 then .slice none 0 0 else .map none) (fun i hi => by
      match i, hi with
      | 0, _ => rfl
      | 1, _ => rfl)).alloc (Obj.cells #[.int .i64 p, .int .i64 0, .bool false] 111)
    simpa using h
  generalize ((w.alloc (Obj.cells #[.int .i64 s, .int .i64 m, .slice a q cap] 34)).alloc (Obj.cells #[.slice none 0 0, .map none] 92)).alloc (Obj.cells #[.int .i64 p, .int .i64 0, .bool false] 111) = X at *
  have hKS : KS (Pl.start p) := ⟨⟨hp.1, by have := hp.2; show p < 6; omega⟩, by show (0 : Nat) < 8; omega⟩
  go_cut [6] from 14 to 22 (fun s6 wx => ∃ mb wb, s6 = .pointer (some ⟨wb, 0, none⟩) ∧ Hid (WSt w wx s m a q cap [Pl.start p] (fun z => if z = Pl.start p then some ar0 else none) mb wb))
  case first =>
    have e0 := b5.cell (i := 0) (by omega)
    have e1 := b5.cell (i := 1) (by omega)
    have e2 := b5.cell (i := 2) (by omega)
    simp only [Pl.start, if_true, if_false, Nat.succ_ne_self, Nat.reduceEqDiff] at e0 e1 e2
    have S0 : X.drew.cell? ⟨w.heap.size + 2, 0, none⟩ = some (.int .i64 p) ∧ X.drew.cell? ⟨w.heap.size + 2, 1, none⟩ = some (.int .i64 0) ∧ X.drew.cell? ⟨w.heap.size + 2, 2, none⟩ = some (.bool false) := ⟨e0, e1, e2⟩
    have hS4 := Lib.hid (fun (W : World) (hb : Below X.drew.heap.size X.drew W) => (⟨(hb.cell (block_lt_of_cell S0.1)).trans S0.1, (hb.cell (block_lt_of_cell S0.2.1)).trans S0.2.1, (hb.cell (block_lt_of_cell S0.2.2)).trans S0.2.2⟩ : W.cell? ⟨w.heap.size + 2, 0, none⟩ = some (.int .i64 p) ∧ W.cell? ⟨w.heap.size + 2, 1, none⟩ = some (.int .i64 0) ∧ W.cell? ⟨w.heap.size + 2, 2, none⟩ = some (.bool false)))
    have hFin : Hid (∀ (W : World) (sb mb wb : Nat), R3 p X.drew W sb mb wb → Hid (WSt w W s m a q cap [Pl.start p] (fun z => if z = Pl.start p then some ar0 else none) mb wb)) := Lib.hid (fun W sb mb wb h => Lib.hid ⟨(h.b.cell (block_lt_of_cell (w := X.drew) c0)).trans c0, (h.b.cell (block_lt_of_cell (w := X.drew) c1)).trans c1, (h.b.cell (block_lt_of_cell (w := X.drew) c2)).trans c2, Below.row' h.b rW.drew, ⟨_, h.w0, by
      have := h.o
      rw [show X.drew.heap.size = w.heap.size + 3 from hX0] at this
      exact this, fun e => h.n1 (Option.some.inj e), fun e => h.n2 (Option.some.inj e)⟩, h.w1, h.f0, ⟨1, h.am⟩, (hB.drew).trans (h.b.mono (by show _ ≤ X.heap.size; omega)), by have := h.hm; rw [show X.drew.heap.size = w.heap.size + 3 from hX0] at this; exact this, by have := h.hw; rw [show X.drew.heap.size = w.heap.size + 3 from hX0] at this; exact this⟩)
    have r0 := Lib.hid (R2.new p X.drew)
    clear e0 e1 e2 b5 c0 c1 c2 rW hB
    refine region_head_held 9 (fun w' => w'.cell? ⟨w.heap.size + 2, 0, none⟩ = some (.int .i64 p) ∧ w'.cell? ⟨w.heap.size + 2, 1, none⟩ = some (.int .i64 0) ∧ w'.cell? ⟨w.heap.size + 2, 2, none⟩ = some (.bool false)) (by kernel_rfl) (by kernel_rfl) S0 (fun hHeld => ?_)
    simp only [List.take_succ_cons, List.take_zero, List.drop_succ_cons, List.drop_zero]
    refine wpAnyH_take (i := 0) (v := ?_) rfl (by kernel_rfl) (by kernel_rfl) (by kernel_rfl) (fun _ _ _ h => h) (Or.inl ⟨by rfl, ?_⟩) (by assumption) ?_
    rotate_left 1
    · (intro w hSw; (try dsimp only at hSw); go_simp; all_goals with_reducible rfl)
    try simp only [Act.put, List.setIfInBounds_toArray, List.set_cons_zero, List.set_cons_succ]
    refine wpAnyH_take (i := 3) (v := ?_) rfl (by kernel_rfl) (by kernel_rfl) (by kernel_rfl) (fun _ _ _ h => h) (Or.inl ⟨by rfl, ?_⟩) (by assumption) ?_
    rotate_left 1
    · (intro w hSw; (try dsimp only at hSw); go_simp; all_goals with_reducible rfl)
    try simp only [Act.put, List.setIfInBounds_toArray, List.set_cons_zero, List.set_cons_succ]
    refine wpAnyH_take (i := 4) (v := ?_) rfl (by kernel_rfl) (by kernel_rfl) (by kernel_rfl) (fun _ _ _ h => h) (Or.inl ⟨by rfl, ?_⟩) (by assumption) ?_
    rotate_left 1
    · (intro w hSw; (try dsimp only at hSw); go_simp; all_goals with_reducible rfl)
    try simp only [Act.put, List.setIfInBounds_toArray, List.set_cons_zero, List.set_cons_succ]
    generalize X.drew = Y0 at *
    -- the orders
    refine wpAnyH_ready (rs := [1, 2, 8]) (by kernel_rfl) (by simp) ?_
    refine AllReadyH.cons rfl (fun K hK => ?_) (AllReadyH.cons rfl (fun K hK => ?_) (AllReadyH.cons rfl (fun K hK => ?_) (AllReadyH.nil)))
    · have hq := Lib.hid r0.out.newA
      have hb2 := Lib.hid hq.out.b
      go_simp
      refine hK.out _ _ (hS4.out _ hb2.out) (fun hH1 => ?_)
      generalize Y0.alloc (Obj.cells #[.int .i64 p, .int .i64 0, .bool false] 111) = Y1 at *
      have r1 := hq
      clear hK K hq hb2 r0
      try simp only [Act.put, List.setIfInBounds_toArray, List.set_cons_succ, List.set_cons_zero]
      refine wpAnyH_ready (rs := [2, 8]) (by kernel_rfl) (by simp) ?_
      refine AllReadyH.cons rfl (fun K hK => ?_) (AllReadyH.cons rfl (fun K hK => ?_) (AllReadyH.nil))
      · have hq := Lib.hid r1.out.newM
        have hb2 := Lib.hid hq.out.b
        go_simp
        refine hK.out _ _ (hS4.out _ hb2.out) (fun hH2 => ?_)
        generalize Y1.alloc (Obj.map #[] 0) = Y2 at *
        have r2 := hq
        clear hK K hq hb2 r1
        try simp only [Act.put, List.setIfInBounds_toArray, List.set_cons_succ, List.set_cons_zero]
        refine wpAnyH_ready (rs := [5, 8]) (by kernel_rfl) (by simp) ?_
        refine AllReadyH.cons rfl (fun K hK => ?_) (AllReadyH.cons rfl (fun K hK => ?_) (AllReadyH.nil))
        · obtain ⟨Y3, hr, hq⟩ := r2.out.ins hKS
          have hb2 := Lib.hid hq.b
          replace hq := Lib.hid hq
          go_simp
          refine hK.out _ _ (hS4.out _ hb2.out) (fun hH3 => ?_)
          have r3 := hq
          clear hK K hr hq hb2 r2
          try simp only [Act.put]
          refine wpAnyH_take (i := 6) (v := ?_) rfl (by kernel_rfl) (by kernel_rfl) (by kernel_rfl) (fun _ _ _ h => h) (Or.inl ⟨by rfl, ?_⟩) (by assumption) ?_
          rotate_left 1
          · (intro w hSw; (try dsimp only at hSw); go_simp; all_goals with_reducible rfl)
          try simp only [Act.put, List.setIfInBounds_toArray, List.set_cons_zero, List.set_cons_succ]
          refine wpAnyH_take (i := 7) (v := ?_) rfl (by kernel_rfl) (by kernel_rfl) (by kernel_rfl) (fun _ _ _ h => h) (Or.inl ⟨by rfl, ?_⟩) (by assumption) ?_
          rotate_left 1
          · (intro w hSw; (try dsimp only at hSw); go_simp; all_goals with_reducible rfl)
          try simp only [Act.put, List.setIfInBounds_toArray, List.set_cons_zero, List.set_cons_succ]
          refine wpAnyH_ready (rs := [8]) (by kernel_rfl) (by simp) ?_
          refine AllReadyH.cons rfl (fun K hK => ?_) (AllReadyH.nil)
          · have hq := Lib.hid r3.out.newB
            have hb2 := Lib.hid hq.out.b
            go_simp
            refine hK.out _ _ (hS4.out _ hb2.out) (fun hH4 => ?_)
            generalize Y3.alloc (Obj.cells #[.slice none 0 0, .map none] 92) = Y4 at *
            have r4 := hq
            clear hK K hq hb2 r3
            try simp only [Act.put, List.setIfInBounds_toArray, List.set_cons_succ, List.set_cons_zero]
            refine wpAnyH_done (by kernel_rfl) ?_ _
            show wpList _ _ _ _ _ _
            have hfin := Lib.hid (r4.out.fin)
            have z0 := r4.out.c0 _ rfl
            have z1 := r4.out.c1 _ rfl
            have z2 := r4.out.f0 _ rfl
            have z3 := r4.out.f1 _ rfl
            clear r4
            go_wp2
            go_meet
            exact ⟨_, _, rfl, hFin.out _ _ _ _ hfin.out⟩
        · have hq := Lib.hid r2.out.newB
          have hb2 := Lib.hid hq.out.b
          go_simp
          refine hK.out _ _ (hS4.out _ hb2.out) (fun hH5 => ?_)
          generalize Y2.alloc (Obj.cells #[.slice none 0 0, .map none] 92) = Y5 at *
          have r5 := hq
          clear hK K hq hb2 r2
          try simp only [Act.put, List.setIfInBounds_toArray, List.set_cons_succ, List.set_cons_zero]
          refine wpAnyH_ready (rs := [5]) (by kernel_rfl) (by simp) ?_
          refine AllReadyH.cons rfl (fun K hK => ?_) (AllReadyH.nil)
          · obtain ⟨Y6, hr, hq⟩ := r5.out.ins hKS
            have hb2 := Lib.hid hq.b
            replace hq := Lib.hid hq
            go_simp
            refine hK.out _ _ (hS4.out _ hb2.out) (fun hH6 => ?_)
            have r6 := hq
            clear hK K hr hq hb2 r5
            try simp only [Act.put]
            refine wpAnyH_take (i := 6) (v := ?_) rfl (by kernel_rfl) (by kernel_rfl) (by kernel_rfl) (fun _ _ _ h => h) (Or.inl ⟨by rfl, ?_⟩) (by assumption) ?_
            rotate_left 1
            · (intro w hSw; (try dsimp only at hSw); go_simp; all_goals with_reducible rfl)
            try simp only [Act.put, List.setIfInBounds_toArray, List.set_cons_zero, List.set_cons_succ]
            refine wpAnyH_take (i := 7) (v := ?_) rfl (by kernel_rfl) (by kernel_rfl) (by kernel_rfl) (fun _ _ _ h => h) (Or.inl ⟨by rfl, ?_⟩) (by assumption) ?_
            rotate_left 1
            · (intro w hSw; (try dsimp only at hSw); go_simp; all_goals with_reducible rfl)
            try simp only [Act.put, List.setIfInBounds_toArray, List.set_cons_zero, List.set_cons_succ]
            refine wpAnyH_done (by kernel_rfl) ?_ _
            show wpList _ _ _ _ _ _
            have hfin := Lib.hid (r6.out.fin)
            have z0 := r6.out.c0 _ rfl
            have z1 := r6.out.c1 _ rfl
            have z2 := r6.out.f0 _ rfl
            have z3 := r6.out.f1 _ rfl
            clear r6
            go_wp2
            go_meet
            exact ⟨_, _, rfl, hFin.out _ _ _ _ hfin.out⟩
      · have hq := Lib.hid r1.out.newB
        have hb2 := Lib.hid hq.out.b
        go_simp
        refine hK.out _ _ (hS4.out _ hb2.out) (fun hH7 => ?_)
        generalize Y1.alloc (Obj.cells #[.slice none 0 0, .map none] 92) = Y7 at *
        have r7 := hq
        clear hK K hq hb2 r1
        try simp only [Act.put, List.setIfInBounds_toArray, List.set_cons_succ, List.set_cons_zero]
        refine wpAnyH_ready (rs := [2]) (by kernel_rfl) (by simp) ?_
        refine AllReadyH.cons rfl (fun K hK => ?_) (AllReadyH.nil)
        · have hq := Lib.hid r7.out.newM
          have hb2 := Lib.hid hq.out.b
          go_simp
          refine hK.out _ _ (hS4.out _ hb2.out) (fun hH8 => ?_)
          generalize Y7.alloc (Obj.map #[] 0) = Y8 at *
          have r8 := hq
          clear hK K hq hb2 r7
          try simp only [Act.put, List.setIfInBounds_toArray, List.set_cons_succ, List.set_cons_zero]
          refine wpAnyH_ready (rs := [5]) (by kernel_rfl) (by simp) ?_
          refine AllReadyH.cons rfl (fun K hK => ?_) (AllReadyH.nil)
          · obtain ⟨Y9, hr, hq⟩ := r8.out.ins hKS
            have hb2 := Lib.hid hq.b
            replace hq := Lib.hid hq
            go_simp
            refine hK.out _ _ (hS4.out _ hb2.out) (fun hH9 => ?_)
            have r9 := hq
            clear hK K hr hq hb2 r8
            try simp only [Act.put]
            refine wpAnyH_take (i := 6) (v := ?_) rfl (by kernel_rfl) (by kernel_rfl) (by kernel_rfl) (fun _ _ _ h => h) (Or.inl ⟨by rfl, ?_⟩) (by assumption) ?_
            rotate_left 1
            · (intro w hSw; (try dsimp only at hSw); go_simp; all_goals with_reducible rfl)
            try simp only [Act.put, List.setIfInBounds_toArray, List.set_cons_zero, List.set_cons_succ]
            refine wpAnyH_take (i := 7) (v := ?_) rfl (by kernel_rfl) (by kernel_rfl) (by kernel_rfl) (fun _ _ _ h => h) (Or.inl ⟨by rfl, ?_⟩) (by assumption) ?_
            rotate_left 1
            · (intro w hSw; (try dsimp only at hSw); go_simp; all_goals with_reducible rfl)
            try simp only [Act.put, List.setIfInBounds_toArray, List.set_cons_zero, List.set_cons_succ]
            refine wpAnyH_done (by kernel_rfl) ?_ _
            show wpList _ _ _ _ _ _
            have hfin := Lib.hid (r9.out.fin)
            have z0 := r9.out.c0 _ rfl
            have z1 := r9.out.c1 _ rfl
            have z2 := r9.out.f0 _ rfl
            have z3 := r9.out.f1 _ rfl
            clear r9
            go_wp2
            go_meet
            exact ⟨_, _, rfl, hFin.out _ _ _ _ hfin.out⟩
    · have hq := Lib.hid r0.out.newM
      have hb2 := Lib.hid hq.out.b
      go_simp
      refine hK.out _ _ (hS4.out _ hb2.out) (fun hH10 => ?_)
      generalize Y0.alloc (Obj.map #[] 0) = Y10 at *
      have r10 := hq
      clear hK K hq hb2 r0
      try simp only [Act.put, List.setIfInBounds_toArray, List.set_cons_succ, List.set_cons_zero]
      refine wpAnyH_ready (rs := [1, 5, 8]) (by kernel_rfl) (by simp) ?_
      refine AllReadyH.cons rfl (fun K hK => ?_) (AllReadyH.cons rfl (fun K hK => ?_) (AllReadyH.cons rfl (fun K hK => ?_) (AllReadyH.nil)))
      · have hq := Lib.hid r10.out.newA
        have hb2 := Lib.hid hq.out.b
        go_simp
        refine hK.out _ _ (hS4.out _ hb2.out) (fun hH11 => ?_)
        generalize Y10.alloc (Obj.cells #[.int .i64 p, .int .i64 0, .bool false] 111) = Y11 at *
        have r11 := hq
        clear hK K hq hb2 r10
        try simp only [Act.put, List.setIfInBounds_toArray, List.set_cons_succ, List.set_cons_zero]
        refine wpAnyH_ready (rs := [5, 8]) (by kernel_rfl) (by simp) ?_
        refine AllReadyH.cons rfl (fun K hK => ?_) (AllReadyH.cons rfl (fun K hK => ?_) (AllReadyH.nil))
        · obtain ⟨Y12, hr, hq⟩ := r11.out.ins hKS
          have hb2 := Lib.hid hq.b
          replace hq := Lib.hid hq
          go_simp
          refine hK.out _ _ (hS4.out _ hb2.out) (fun hH12 => ?_)
          have r12 := hq
          clear hK K hr hq hb2 r11
          try simp only [Act.put]
          refine wpAnyH_take (i := 6) (v := ?_) rfl (by kernel_rfl) (by kernel_rfl) (by kernel_rfl) (fun _ _ _ h => h) (Or.inl ⟨by rfl, ?_⟩) (by assumption) ?_
          rotate_left 1
          · (intro w hSw; (try dsimp only at hSw); go_simp; all_goals with_reducible rfl)
          try simp only [Act.put, List.setIfInBounds_toArray, List.set_cons_zero, List.set_cons_succ]
          refine wpAnyH_take (i := 7) (v := ?_) rfl (by kernel_rfl) (by kernel_rfl) (by kernel_rfl) (fun _ _ _ h => h) (Or.inl ⟨by rfl, ?_⟩) (by assumption) ?_
          rotate_left 1
          · (intro w hSw; (try dsimp only at hSw); go_simp; all_goals with_reducible rfl)
          try simp only [Act.put, List.setIfInBounds_toArray, List.set_cons_zero, List.set_cons_succ]
          refine wpAnyH_ready (rs := [8]) (by kernel_rfl) (by simp) ?_
          refine AllReadyH.cons rfl (fun K hK => ?_) (AllReadyH.nil)
          · have hq := Lib.hid r12.out.newB
            have hb2 := Lib.hid hq.out.b
            go_simp
            refine hK.out _ _ (hS4.out _ hb2.out) (fun hH13 => ?_)
            generalize Y12.alloc (Obj.cells #[.slice none 0 0, .map none] 92) = Y13 at *
            have r13 := hq
            clear hK K hq hb2 r12
            try simp only [Act.put, List.setIfInBounds_toArray, List.set_cons_succ, List.set_cons_zero]
            refine wpAnyH_done (by kernel_rfl) ?_ _
            show wpList _ _ _ _ _ _
            have hfin := Lib.hid (r13.out.fin)
            have z0 := r13.out.c0 _ rfl
            have z1 := r13.out.c1 _ rfl
            have z2 := r13.out.f0 _ rfl
            have z3 := r13.out.f1 _ rfl
            clear r13
            go_wp2
            go_meet
            exact ⟨_, _, rfl, hFin.out _ _ _ _ hfin.out⟩
        · have hq := Lib.hid r11.out.newB
          have hb2 := Lib.hid hq.out.b
          go_simp
          refine hK.out _ _ (hS4.out _ hb2.out) (fun hH14 => ?_)
          generalize Y11.alloc (Obj.cells #[.slice none 0 0, .map none] 92) = Y14 at *
          have r14 := hq
          clear hK K hq hb2 r11
          try simp only [Act.put, List.setIfInBounds_toArray, List.set_cons_succ, List.set_cons_zero]
          refine wpAnyH_ready (rs := [5]) (by kernel_rfl) (by simp) ?_
          refine AllReadyH.cons rfl (fun K hK => ?_) (AllReadyH.nil)
          · obtain ⟨Y15, hr, hq⟩ := r14.out.ins hKS
            have hb2 := Lib.hid hq.b
            replace hq := Lib.hid hq
            go_simp
            refine hK.out _ _ (hS4.out _ hb2.out) (fun hH15 => ?_)
            have r15 := hq
            clear hK K hr hq hb2 r14
            try simp only [Act.put]
            refine wpAnyH_take (i := 6) (v := ?_) rfl (by kernel_rfl) (by kernel_rfl) (by kernel_rfl) (fun _ _ _ h => h) (Or.inl ⟨by rfl, ?_⟩) (by assumption) ?_
            rotate_left 1
            · (intro w hSw; (try dsimp only at hSw); go_simp; all_goals with_reducible rfl)
            try simp only [Act.put, List.setIfInBounds_toArray, List.set_cons_zero, List.set_cons_succ]
            refine wpAnyH_take (i := 7) (v := ?_) rfl (by kernel_rfl) (by kernel_rfl) (by kernel_rfl) (fun _ _ _ h => h) (Or.inl ⟨by rfl, ?_⟩) (by assumption) ?_
            rotate_left 1
            · (intro w hSw; (try dsimp only at hSw); go_simp; all_goals with_reducible rfl)
            try simp only [Act.put, List.setIfInBounds_toArray, List.set_cons_zero, List.set_cons_succ]
            refine wpAnyH_done (by kernel_rfl) ?_ _
            show wpList _ _ _ _ _ _
            have hfin := Lib.hid (r15.out.fin)
            have z0 := r15.out.c0 _ rfl
            have z1 := r15.out.c1 _ rfl
            have z2 := r15.out.f0 _ rfl
            have z3 := r15.out.f1 _ rfl
            clear r15
            go_wp2
            go_meet
            exact ⟨_, _, rfl, hFin.out _ _ _ _ hfin.out⟩
      · obtain ⟨Y16, hr, hq⟩ := r10.out.ins hKS
        have hb2 := Lib.hid hq.b
        replace hq := Lib.hid hq
        go_simp
        refine hK.out _ _ (hS4.out _ hb2.out) (fun hH16 => ?_)
        have r16 := hq
        clear hK K hr hq hb2 r10
        try simp only [Act.put]
        refine wpAnyH_take (i := 6) (v := ?_) rfl (by kernel_rfl) (by kernel_rfl) (by kernel_rfl) (fun _ _ _ h => h) (Or.inl ⟨by rfl, ?_⟩) (by assumption) ?_
        rotate_left 1
        · (intro w hSw; (try dsimp only at hSw); go_simp; all_goals with_reducible rfl)
        try simp only [Act.put, List.setIfInBounds_toArray, List.set_cons_zero, List.set_cons_succ]
        refine wpAnyH_ready (rs := [1, 8]) (by kernel_rfl) (by simp) ?_
        refine AllReadyH.cons rfl (fun K hK => ?_) (AllReadyH.cons rfl (fun K hK => ?_) (AllReadyH.nil))
        · have hq := Lib.hid r16.out.newA
          have hb2 := Lib.hid hq.out.b
          go_simp
          refine hK.out _ _ (hS4.out _ hb2.out) (fun hH17 => ?_)
          generalize Y16.alloc (Obj.cells #[.int .i64 p, .int .i64 0, .bool false] 111) = Y17 at *
          have r17 := hq
          clear hK K hq hb2 r16
          try simp only [Act.put, List.setIfInBounds_toArray, List.set_cons_succ, List.set_cons_zero]
          refine wpAnyH_take (i := 7) (v := ?_) rfl (by kernel_rfl) (by kernel_rfl) (by kernel_rfl) (fun _ _ _ h => h) (Or.inl ⟨by rfl, ?_⟩) (by assumption) ?_
          rotate_left 1
          · (intro w hSw; (try dsimp only at hSw); go_simp; all_goals with_reducible rfl)
          try simp only [Act.put, List.setIfInBounds_toArray, List.set_cons_zero, List.set_cons_succ]
          refine wpAnyH_ready (rs := [8]) (by kernel_rfl) (by simp) ?_
          refine AllReadyH.cons rfl (fun K hK => ?_) (AllReadyH.nil)
          · have hq := Lib.hid r17.out.newB
            have hb2 := Lib.hid hq.out.b
            go_simp
            refine hK.out _ _ (hS4.out _ hb2.out) (fun hH18 => ?_)
            generalize Y17.alloc (Obj.cells #[.slice none 0 0, .map none] 92) = Y18 at *
            have r18 := hq
            clear hK K hq hb2 r17
            try simp only [Act.put, List.setIfInBounds_toArray, List.set_cons_succ, List.set_cons_zero]
            refine wpAnyH_done (by kernel_rfl) ?_ _
            show wpList _ _ _ _ _ _
            have hfin := Lib.hid (r18.out.fin)
            have z0 := r18.out.c0 _ rfl
            have z1 := r18.out.c1 _ rfl
            have z2 := r18.out.f0 _ rfl
            have z3 := r18.out.f1 _ rfl
            clear r18
            go_wp2
            go_meet
            exact ⟨_, _, rfl, hFin.out _ _ _ _ hfin.out⟩
        · have hq := Lib.hid r16.out.newB
          have hb2 := Lib.hid hq.out.b
          go_simp
          refine hK.out _ _ (hS4.out _ hb2.out) (fun hH19 => ?_)
          generalize Y16.alloc (Obj.cells #[.slice none 0 0, .map none] 92) = Y19 at *
          have r19 := hq
          clear hK K hq hb2 r16
          try simp only [Act.put, List.setIfInBounds_toArray, List.set_cons_succ, List.set_cons_zero]
          refine wpAnyH_ready (rs := [1]) (by kernel_rfl) (by simp) ?_
          refine AllReadyH.cons rfl (fun K hK => ?_) (AllReadyH.nil)
          · have hq := Lib.hid r19.out.newA
            have hb2 := Lib.hid hq.out.b
            go_simp
            refine hK.out _ _ (hS4.out _ hb2.out) (fun hH20 => ?_)
            generalize Y19.alloc (Obj.cells #[.int .i64 p, .int .i64 0, .bool false] 111) = Y20 at *
            have r20 := hq
            clear hK K hq hb2 r19
            try simp only [Act.put, List.setIfInBounds_toArray, List.set_cons_succ, List.set_cons_zero]
            refine wpAnyH_take (i := 7) (v := ?_) rfl (by kernel_rfl) (by kernel_rfl) (by kernel_rfl) (fun _ _ _ h => h) (Or.inl ⟨by rfl, ?_⟩) (by assumption) ?_
            rotate_left 1
            · (intro w hSw; (try dsimp only at hSw); go_simp; all_goals with_reducible rfl)
            try simp only [Act.put, List.setIfInBounds_toArray, List.set_cons_zero, List.set_cons_succ]
            refine wpAnyH_done (by kernel_rfl) ?_ _
            show wpList _ _ _ _ _ _
            have hfin := Lib.hid (r20.out.fin)
            have z0 := r20.out.c0 _ rfl
            have z1 := r20.out.c1 _ rfl
            have z2 := r20.out.f0 _ rfl
            have z3 := r20.out.f1 _ rfl
            clear r20
            go_wp2
            go_meet
            exact ⟨_, _, rfl, hFin.out _ _ _ _ hfin.out⟩
      · have hq := Lib.hid r10.out.newB
        have hb2 := Lib.hid hq.out.b
        go_simp
        refine hK.out _ _ (hS4.out _ hb2.out) (fun hH21 => ?_)
        generalize Y10.alloc (Obj.cells #[.slice none 0 0, .map none] 92) = Y21 at *
        have r21 := hq
        clear hK K hq hb2 r10
        try simp only [Act.put, List.setIfInBounds_toArray, List.set_cons_succ, List.set_cons_zero]
        refine wpAnyH_ready (rs := [1, 5]) (by kernel_rfl) (by simp) ?_
        refine AllReadyH.cons rfl (fun K hK => ?_) (AllReadyH.cons rfl (fun K hK => ?_) (AllReadyH.nil))
        · have hq := Lib.hid r21.out.newA
          have hb2 := Lib.hid hq.out.b
          go_simp
          refine hK.out _ _ (hS4.out _ hb2.out) (fun hH22 => ?_)
          generalize Y21.alloc (Obj.cells #[.int .i64 p, .int .i64 0, .bool false] 111) = Y22 at *
          have r22 := hq
          clear hK K hq hb2 r21
          try simp only [Act.put, List.setIfInBounds_toArray, List.set_cons_succ, List.set_cons_zero]
          refine wpAnyH_ready (rs := [5]) (by kernel_rfl) (by simp) ?_
          refine AllReadyH.cons rfl (fun K hK => ?_) (AllReadyH.nil)
          · obtain ⟨Y23, hr, hq⟩ := r22.out.ins hKS
            have hb2 := Lib.hid hq.b
            replace hq := Lib.hid hq
            go_simp
            refine hK.out _ _ (hS4.out _ hb2.out) (fun hH23 => ?_)
            have r23 := hq
            clear hK K hr hq hb2 r22
            try simp only [Act.put]
            refine wpAnyH_take (i := 6) (v := ?_) rfl (by kernel_rfl) (by kernel_rfl) (by kernel_rfl) (fun _ _ _ h => h) (Or.inl ⟨by rfl, ?_⟩) (by assumption) ?_
            rotate_left 1
            · (intro w hSw; (try dsimp only at hSw); go_simp; all_goals with_reducible rfl)
            try simp only [Act.put, List.setIfInBounds_toArray, List.set_cons_zero, List.set_cons_succ]
            refine wpAnyH_take (i := 7) (v := ?_) rfl (by kernel_rfl) (by kernel_rfl) (by kernel_rfl) (fun _ _ _ h => h) (Or.inl ⟨by rfl, ?_⟩) (by assumption) ?_
            rotate_left 1
            · (intro w hSw; (try dsimp only at hSw); go_simp; all_goals with_reducible rfl)
            try simp only [Act.put, List.setIfInBounds_toArray, List.set_cons_zero, List.set_cons_succ]
            refine wpAnyH_done (by kernel_rfl) ?_ _
            show wpList _ _ _ _ _ _
            have hfin := Lib.hid (r23.out.fin)
            have z0 := r23.out.c0 _ rfl
            have z1 := r23.out.c1 _ rfl
            have z2 := r23.out.f0 _ rfl
            have z3 := r23.out.f1 _ rfl
            clear r23
            go_wp2
            go_meet
            exact ⟨_, _, rfl, hFin.out _ _ _ _ hfin.out⟩
        · obtain ⟨Y24, hr, hq⟩ := r21.out.ins hKS
          have hb2 := Lib.hid hq.b
          replace hq := Lib.hid hq
          go_simp
          refine hK.out _ _ (hS4.out _ hb2.out) (fun hH24 => ?_)
          have r24 := hq
          clear hK K hr hq hb2 r21
          try simp only [Act.put]
          refine wpAnyH_take (i := 6) (v := ?_) rfl (by kernel_rfl) (by kernel_rfl) (by kernel_rfl) (fun _ _ _ h => h) (Or.inl ⟨by rfl, ?_⟩) (by assumption) ?_
          rotate_left 1
          · (intro w hSw; (try dsimp only at hSw); go_simp; all_goals with_reducible rfl)
          try simp only [Act.put, List.setIfInBounds_toArray, List.set_cons_zero, List.set_cons_succ]
          refine wpAnyH_ready (rs := [1]) (by kernel_rfl) (by simp) ?_
          refine AllReadyH.cons rfl (fun K hK => ?_) (AllReadyH.nil)
          · have hq := Lib.hid r24.out.newA
            have hb2 := Lib.hid hq.out.b
            go_simp
            refine hK.out _ _ (hS4.out _ hb2.out) (fun hH25 => ?_)
            generalize Y24.alloc (Obj.cells #[.int .i64 p, .int .i64 0, .bool false] 111) = Y25 at *
            have r25 := hq
            clear hK K hq hb2 r24
            try simp only [Act.put, List.setIfInBounds_toArray, List.set_cons_succ, List.set_cons_zero]
            refine wpAnyH_take (i := 7) (v := ?_) rfl (by kernel_rfl) (by kernel_rfl) (by kernel_rfl) (fun _ _ _ h => h) (Or.inl ⟨by rfl, ?_⟩) (by assumption) ?_
            rotate_left 1
            · (intro w hSw; (try dsimp only at hSw); go_simp; all_goals with_reducible rfl)
            try simp only [Act.put, List.setIfInBounds_toArray, List.set_cons_zero, List.set_cons_succ]
            refine wpAnyH_done (by kernel_rfl) ?_ _
            show wpList _ _ _ _ _ _
            have hfin := Lib.hid (r25.out.fin)
            have z0 := r25.out.c0 _ rfl
            have z1 := r25.out.c1 _ rfl
            have z2 := r25.out.f0 _ rfl
            have z3 := r25.out.f1 _ rfl
            clear r25
            go_wp2
            go_meet
            exact ⟨_, _, rfl, hFin.out _ _ _ _ hfin.out⟩
    · have hq := Lib.hid r0.out.newB
      have hb2 := Lib.hid hq.out.b
      go_simp
      refine hK.out _ _ (hS4.out _ hb2.out) (fun hH26 => ?_)
      generalize Y0.alloc (Obj.cells #[.slice none 0 0, .map none] 92) = Y26 at *
      have r26 := hq
      clear hK K hq hb2 r0
      try simp only [Act.put, List.setIfInBounds_toArray, List.set_cons_succ, List.set_cons_zero]
      refine wpAnyH_ready (rs := [1, 2]) (by kernel_rfl) (by simp) ?_
      refine AllReadyH.cons rfl (fun K hK => ?_) (AllReadyH.cons rfl (fun K hK => ?_) (AllReadyH.nil))
      · have hq := Lib.hid r26.out.newA
        have hb2 := Lib.hid hq.out.b
        go_simp
        refine hK.out _ _ (hS4.out _ hb2.out) (fun hH27 => ?_)
        generalize Y26.alloc (Obj.cells #[.int .i64 p, .int .i64 0, .bool false] 111) = Y27 at *
        have r27 := hq
        clear hK K hq hb2 r26
        try simp only [Act.put, List.setIfInBounds_toArray, List.set_cons_succ, List.set_cons_zero]
        refine wpAnyH_ready (rs := [2]) (by kernel_rfl) (by simp) ?_
        refine AllReadyH.cons rfl (fun K hK => ?_) (AllReadyH.nil)
        · have hq := Lib.hid r27.out.newM
          have hb2 := Lib.hid hq.out.b
          go_simp
          refine hK.out _ _ (hS4.out _ hb2.out) (fun hH28 => ?_)
          generalize Y27.alloc (Obj.map #[] 0) = Y28 at *
          have r28 := hq
          clear hK K hq hb2 r27
          try simp only [Act.put, List.setIfInBounds_toArray, List.set_cons_succ, List.set_cons_zero]
          refine wpAnyH_ready (rs := [5]) (by kernel_rfl) (by simp) ?_
          refine AllReadyH.cons rfl (fun K hK => ?_) (AllReadyH.nil)
          · obtain ⟨Y29, hr, hq⟩ := r28.out.ins hKS
            have hb2 := Lib.hid hq.b
            replace hq := Lib.hid hq
            go_simp
            refine hK.out _ _ (hS4.out _ hb2.out) (fun hH29 => ?_)
            have r29 := hq
            clear hK K hr hq hb2 r28
            try simp only [Act.put]
            refine wpAnyH_take (i := 6) (v := ?_) rfl (by kernel_rfl) (by kernel_rfl) (by kernel_rfl) (fun _ _ _ h => h) (Or.inl ⟨by rfl, ?_⟩) (by assumption) ?_
            rotate_left 1
            · (intro w hSw; (try dsimp only at hSw); go_simp; all_goals with_reducible rfl)
            try simp only [Act.put, List.setIfInBounds_toArray, List.set_cons_zero, List.set_cons_succ]
            refine wpAnyH_take (i := 7) (v := ?_) rfl (by kernel_rfl) (by kernel_rfl) (by kernel_rfl) (fun _ _ _ h => h) (Or.inl ⟨by rfl, ?_⟩) (by assumption) ?_
            rotate_left 1
            · (intro w hSw; (try dsimp only at hSw); go_simp; all_goals with_reducible rfl)
            try simp only [Act.put, List.setIfInBounds_toArray, List.set_cons_zero, List.set_cons_succ]
            refine wpAnyH_done (by kernel_rfl) ?_ _
            show wpList _ _ _ _ _ _
            have hfin := Lib.hid (r29.out.fin)
            have z0 := r29.out.c0 _ rfl
            have z1 := r29.out.c1 _ rfl
            have z2 := r29.out.f0 _ rfl
            have z3 := r29.out.f1 _ rfl
            clear r29
            go_wp2
            go_meet
            exact ⟨_, _, rfl, hFin.out _ _ _ _ hfin.out⟩
      · have hq := Lib.hid r26.out.newM
        have hb2 := Lib.hid hq.out.b
        go_simp
        refine hK.out _ _ (hS4.out _ hb2.out) (fun hH30 => ?_)
        generalize Y26.alloc (Obj.map #[] 0) = Y30 at *
        have r30 := hq
        clear hK K hq hb2 r26
        try simp only [Act.put, List.setIfInBounds_toArray, List.set_cons_succ, List.set_cons_zero]
        refine wpAnyH_ready (rs := [1, 5]) (by kernel_rfl) (by simp) ?_
        refine AllReadyH.cons rfl (fun K hK => ?_) (AllReadyH.cons rfl (fun K hK => ?_) (AllReadyH.nil))
        · have hq := Lib.hid r30.out.newA
          have hb2 := Lib.hid hq.out.b
          go_simp
          refine hK.out _ _ (hS4.out _ hb2.out) (fun hH31 => ?_)
          generalize Y30.alloc (Obj.cells #[.int .i64 p, .int .i64 0, .bool false] 111) = Y31 at *
          have r31 := hq
          clear hK K hq hb2 r30
          try simp only [Act.put, List.setIfInBounds_toArray, List.set_cons_succ, List.set_cons_zero]
          refine wpAnyH_ready (rs := [5]) (by kernel_rfl) (by simp) ?_
          refine AllReadyH.cons rfl (fun K hK => ?_) (AllReadyH.nil)
          · obtain ⟨Y32, hr, hq⟩ := r31.out.ins hKS
            have hb2 := Lib.hid hq.b
            replace hq := Lib.hid hq
            go_simp
            refine hK.out _ _ (hS4.out _ hb2.out) (fun hH32 => ?_)
            have r32 := hq
            clear hK K hr hq hb2 r31
            try simp only [Act.put]
            refine wpAnyH_take (i := 6) (v := ?_) rfl (by kernel_rfl) (by kernel_rfl) (by kernel_rfl) (fun _ _ _ h => h) (Or.inl ⟨by rfl, ?_⟩) (by assumption) ?_
            rotate_left 1
            · (intro w hSw; (try dsimp only at hSw); go_simp; all_goals with_reducible rfl)
            try simp only [Act.put, List.setIfInBounds_toArray, List.set_cons_zero, List.set_cons_succ]
            refine wpAnyH_take (i := 7) (v := ?_) rfl (by kernel_rfl) (by kernel_rfl) (by kernel_rfl) (fun _ _ _ h => h) (Or.inl ⟨by rfl, ?_⟩) (by assumption) ?_
            rotate_left 1
            · (intro w hSw; (try dsimp only at hSw); go_simp; all_goals with_reducible rfl)
            try simp only [Act.put, List.setIfInBounds_toArray, List.set_cons_zero, List.set_cons_succ]
            refine wpAnyH_done (by kernel_rfl) ?_ _
            show wpList _ _ _ _ _ _
            have hfin := Lib.hid (r32.out.fin)
            have z0 := r32.out.c0 _ rfl
            have z1 := r32.out.c1 _ rfl
            have z2 := r32.out.f0 _ rfl
            have z3 := r32.out.f1 _ rfl
            clear r32
            go_wp2
            go_meet
            exact ⟨_, _, rfl, hFin.out _ _ _ _ hfin.out⟩
        · obtain ⟨Y33, hr, hq⟩ := r30.out.ins hKS
          have hb2 := Lib.hid hq.b
          replace hq := Lib.hid hq
          go_simp
          refine hK.out _ _ (hS4.out _ hb2.out) (fun hH33 => ?_)
          have r33 := hq
          clear hK K hr hq hb2 r30
          try simp only [Act.put]
          refine wpAnyH_take (i := 6) (v := ?_) rfl (by kernel_rfl) (by kernel_rfl) (by kernel_rfl) (fun _ _ _ h => h) (Or.inl ⟨by rfl, ?_⟩) (by assumption) ?_
          rotate_left 1
          · (intro w hSw; (try dsimp only at hSw); go_simp; all_goals with_reducible rfl)
          try simp only [Act.put, List.setIfInBounds_toArray, List.set_cons_zero, List.set_cons_succ]
          refine wpAnyH_ready (rs := [1]) (by kernel_rfl) (by simp) ?_
          refine AllReadyH.cons rfl (fun K hK => ?_) (AllReadyH.nil)
          · have hq := Lib.hid r33.out.newA
            have hb2 := Lib.hid hq.out.b
            go_simp
            refine hK.out _ _ (hS4.out _ hb2.out) (fun hH34 => ?_)
            generalize Y33.alloc (Obj.cells #[.int .i64 p, .int .i64 0, .bool false] 111) = Y34 at *
            have r34 := hq
            clear hK K hq hb2 r33
            try simp only [Act.put, List.setIfInBounds_toArray, List.set_cons_succ, List.set_cons_zero]
            refine wpAnyH_take (i := 7) (v := ?_) rfl (by kernel_rfl) (by kernel_rfl) (by kernel_rfl) (fun _ _ _ h => h) (Or.inl ⟨by rfl, ?_⟩) (by assumption) ?_
            rotate_left 1
            · (intro w hSw; (try dsimp only at hSw); go_simp; all_goals with_reducible rfl)
            try simp only [Act.put, List.setIfInBounds_toArray, List.set_cons_zero, List.set_cons_succ]
            refine wpAnyH_done (by kernel_rfl) ?_ _
            show wpList _ _ _ _ _ _
            have hfin := Lib.hid (r34.out.fin)
            have z0 := r34.out.c0 _ rfl
            have z1 := r34.out.c1 _ rfl
            have z2 := r34.out.f0 _ rfl
            have z3 := r34.out.f1 _ rfl
            clear r34
            go_wp2
            go_meet
            exact ⟨_, _, rfl, hFin.out _ _ _ _ hfin.out⟩
    -- the orders' end
  case rest =>
    clear c0 c1 c2 b5 rW hB hX0 hmm hKS
    clear X
    obtain ⟨mb, wb, rfl, hW⟩ := hcut
    generalize wc = W0 at *
    clear wc
    go_wp2
    go_loopw [7] (fun iv wr => ∃ (k : Nat) (acc : List (Pl.St × List Int)) (f : Pl.St → Option (Pl.St × Int)), k ≤ acc.length ∧ iv = .int .i64 (k : Int) ∧ Hid (WSt w wr s m a q cap (acc.map Prod.fst) f mb wb) ∧ Hid (Pl.AccF acc f) ∧ Hid (Pl.Bf (Pl.adv L) (Pl.stps L.length) (Pl.start p) k acc) ∧ Hid (Pl.bfs (Pl.adv L) (Pl.stps L.length) (97 - k) k acc = Pl.ways L p)) (fun iv _ => 97 - (RowKit.intOf iv).toNat)
    case atStart => exact ⟨0, [(Pl.start p, [])], _, by simp, rfl, hW, Lib.hid (Pl.accF_start _ _), Lib.hid (Pl.bf_start _ _ _), Lib.hid rfl⟩
    case round =>
      clear hW
      clear W0
      obtain ⟨k, acc, f, hk, rfl, hW, hA, hF, hR⟩ := hrel
      have hlen := Pl.bf_len hm1 hok.out hp hF.out
      obtain ⟨v, d0, o, _, _⟩ := hW.out.o
      have hml : (acc.map Prod.fst).length = acc.length := by simp
      rw [hml] at o
      obtain ⟨a', cp, rfl, hS⟩ := sts_of_owns hml o
      clear o hml
      by_cases hlt : k < acc.length
      · have hi5 : (k : Int) < (acc.length : Int) := by omega
        have hi6 : (0 : Int) ≤ (k : Int) := by omega
        obtain ⟨⟨⟨p', t', m'⟩, v'⟩, hx⟩ : ∃ x, acc[k]? = some x := ⟨_, List.getElem?_eq_getElem hlt⟩
        obtain ⟨y, rfl, g0, g1, g2⟩ := hS k ⟨p', t', m'⟩ (by rw [List.getElem?_map, hx]; rfl)
        simp only at g0 g1 g2
        have hin := Pl.bf_in hok.out hp hF.out (List.mem_of_getElem? hx)
        simp only at hin
        have ht : t' < 8 := hin.2
        have s2 := hW.out.s2
        replace hin := Lib.hid hin
        replace hx := Lib.hid hx
        clear hS
        go_upto_region 7 with fail
        have hWA := Lib.hid (hW.out.below (below_alloc (Below.refl _ _) (Obj.cells #[.int .i64 p', .int .i64 (t' : Int), .bool m'] 111)))
        have hSA : Hid (AtS (wr.alloc (Obj.cells #[.int .i64 p', .int .i64 (t' : Int), .bool m'] 111)) wr.heap.size wb ⟨p', t', m'⟩) := Lib.hid ⟨sa_new wr ⟨p', t', m'⟩, _, cell_alloc d0 _, fun e => by
          obtain ⟨v9, d9, o9, _⟩ := hW.out.o
          rw [d0] at d9
          obtain rfl := Option.some.inj d9
          have := (o9.lt _ e).2
          omega⟩
        have hwab := block_lt_of_cell d0
        simp only at hwab
        clear d0 g0 g1 g2 hW s2
        generalize wr.alloc (Obj.cells #[.int .i64 p', .int .i64 (t' : Int), .bool m'] 111) = X at *
        generalize wr.heap.size = ab at *
        have s2 := hWA.out.s2
        have hw1 : IntKind.i64.wrap (-(q : Int)) = -(q : Int) := by rw [IntWalk.i64_left]; exact IntWalk.wrap64_in _ (by omega)
        go_wp2
        go_loopw [9] (fun st W => ∃ (j : Nat) (f : Pl.St → Option (Pl.St × Int)), j ≤ 2 * q ∧ st = .int .i64 ((j : Int) - (q : Int)) ∧ Hid (WSt w W s m a q cap ((Pl.inn L (⟨p', t', m'⟩, v') acc j).map Prod.fst) f mb wb) ∧ Hid (Pl.AccF (Pl.inn L (⟨p', t', m'⟩, v') acc j) f) ∧ Hid (AtS W ab wb ⟨p', t', m'⟩)) (fun st _ => ((q : Int) - RowKit.intOf st).toNat)
        case atStart => exact ⟨0, f, Nat.zero_le _, by go_num, hWA, hA, hSA⟩
        case round =>
          clear hWA hA hSA s2 f
          clear X
          obtain ⟨j, f, hj, rfl, hW, hA, hSA⟩ := hrel
          obtain ⟨hB, hBx⟩ := Pl.inn_bf hF.out hx.out j
          have s0 := hW.out.s0
          have s1 := hW.out.s1
          have s2 := hW.out.s2
          by_cases hlt2 : j < 2 * q
          · have hi7 : (j : Int) - (q : Int) < (q : Int) := by omega
            have hsc := Pl.inn_succ (L := L) (⟨p', t', m'⟩, v') acc (j := j) (by omega)
            rw [hq] at hsc
            have HA := advance_any s m a q cap L hq hq2 hok p' t' m' ht ((j : Int) - (q : Int)) (by omega) (by omega) wr (Lib.hid (hL.out.below hW.out.b))
            have e0 := hSA.out.r.cell (i := 0) (by omega)
            have e1 := hSA.out.r.cell (i := 1) (by omega)
            have e2 := hSA.out.r.cell (i := 2) (by omega)
            simp only [if_true, if_false, Nat.succ_ne_self, Nat.reduceEqDiff] at e0 e1 e2
            have hmem : (⟨p', t', m'⟩, v') ∈ Pl.inn L (⟨p', t', m'⟩, v') acc j := List.mem_of_getElem? hBx
            replace hmem := Lib.hid hmem
            replace hB := Lib.hid hB
            clear hBx
            have hw2 : IntKind.i64.wrap ((j : Int) - (q : Int) + 1) = (j : Int) - (q : Int) + 1 := by rw [IntWalk.i64_left]; exact IntWalk.wrap64_in _ (by omega)
            unfold Pl.addS at hsc
            have hadin : ∀ z, Pl.adv L ⟨p', t', m'⟩ ((j : Int) - (q : Int)) = some z → KS z := fun z hz => by
              have h := Pl.adv_in hok.out (s := ⟨p', t', m'⟩) (Pl.mem_stps.2 (by omega)) hin.out.2 hz
              exact ⟨⟨h.1.1, by omega⟩, h.2⟩
            simp only at hsc
            cases hadv : Pl.adv L ⟨p', t', m'⟩ ((j : Int) - (q : Int)) with
            | none =>
              rw [hadv] at HA hsc
              simp only at HA hsc
              replace HA := Lib.hid HA
              replace hsc := Lib.hid hsc
              clear hadv hadin
              go_wp2_with fail
              refine (HA.out).mono ?_
              rintro e w1 ⟨rfl, hb1⟩
              have hW1 := Lib.hid (hW.out.below hb1)
              have hS1 := Lib.hid (hSA.out.below hb1)
              have hWn : Hid (WSt w (w1.alloc (Obj.cells #[.int .i64 0, .int .i64 0, .bool false] 111)) s m a q cap ((Pl.inn L (⟨p', t', m'⟩, v') acc (j + 1)).map Prod.fst) f mb wb) := Lib.hid (by rw [hsc.out]; exact hW1.out.below (below_alloc (Below.refl _ _) _))
              have hAn : Hid (Pl.AccF (Pl.inn L (⟨p', t', m'⟩, v') acc (j + 1)) f) := Lib.hid (by rw [hsc.out]; exact hA.out)
              have hSn := Lib.hid (hS1.out.below (below_alloc (Below.refl _ _) (Obj.cells #[.int .i64 0, .int .i64 0, .bool false] 111)))
              clear hW hSA hW1 hS1 hb1 HA s0 s1 s2 e0 e1 e2 hA
              go_wp2
              go_roundw
              case rel => exact ⟨j + 1, f, by omega, by go_num, hWn, hAn, hSn⟩
              case measure => first | (simp [RowKit.intOf]; done) | (simp [RowKit.intOf]; omega) | omega
            | some z =>
              have hKz := hadin z hadv
              obtain ⟨zp, zt, zm⟩ := z
              rw [hadv] at HA hsc
              simp only [stV] at HA hsc
              replace HA := Lib.hid HA
              replace hsc := Lib.hid hsc
              clear hadv hadin
              go_wp2_with fail
              refine (HA.out).mono ?_
              rintro e w1 ⟨rfl, hb1⟩
              have hW1 := Lib.hid (hW.out.below hb1)
              have hS1 := Lib.hid (hSA.out.below hb1)
              clear hW hSA hb1 HA s0 s1 s2 e0 e1 e2
              go_upto_region 12 with fail
              have hbz := below_alloc (Below.refl w1.heap.size w1) (Obj.cells #[.int .i64 zp, .int .i64 (zt : Int), .bool zm] 111)
              have hW2 := Lib.hid (hW1.out.below hbz)
              have hS2 := Lib.hid (hS1.out.below hbz)
              have hZ2 := Lib.hid (sa_new w1 ⟨zp, zt, zm⟩)
              clear hW1 hS1 hbz
              generalize w1.alloc (Obj.cells #[.int .i64 zp, .int .i64 (zt : Int), .bool zm] 111) = X1 at *
              generalize w1.heap.size = zb at *
              obtain ⟨nn, ha⟩ := hW2.out.am
              have d1 := hW2.out.m1
              have z0 := hZ2.out.cell (i := 0) (by omega)
              have z1 := hZ2.out.cell (i := 1) (by omega)
              have z2 := hZ2.out.cell (i := 2) (by omega)
              simp only [if_true, if_false, Nat.succ_ne_self, Nat.reduceEqDiff] at z0 z1 z2
              obtain ⟨q0, q1, q2, q3, hq0⟩ : ∃ q0 q1 q2 q3, (f ⟨zp, zt, zm⟩).getD ar0 = (⟨q0, q1, q2⟩, q3) := ⟨_, _, _, _, rfl⟩
              have hlook := ha.look hKz
              rw [hq0] at hlook
              simp only [arV, stV] at hlook
              by_cases hz : (⟨zp, zt, zm⟩ : Pl.St) ∈ (Pl.inn L (⟨p', t', m'⟩, v') acc j).map Prod.fst
              · rw [hA.out.some hz] at hlook
                have hst := hsc.out
                rw [if_pos hz] at hst
                replace hst := Lib.hid hst
                have hba := below_alloc (Below.refl X1.heap.size X1) (Obj.cells #[.int .i64 q0, .int .i64 (q1 : Int), .bool q2, .int .i64 q3] 138)
                have hWn : Hid (WSt w (X1.alloc (Obj.cells #[.int .i64 q0, .int .i64 (q1 : Int), .bool q2, .int .i64 q3] 138)) s m a q cap ((Pl.inn L (⟨p', t', m'⟩, v') acc (j + 1)).map Prod.fst) f mb wb) := Lib.hid (by rw [hst.out]; exact hW2.out.below hba)
                have hAn : Hid (Pl.AccF (Pl.inn L (⟨p', t', m'⟩, v') acc (j + 1)) f) := Lib.hid (by rw [hst.out]; exact hA.out)
                have hSn := Lib.hid (hS2.out.below hba)
                clear hW2 hS2 hba hA ha hZ2 hsc hz hq0
                go_wp2
                go_roundw
                case rel => exact ⟨j + 1, f, by omega, by go_num, hWn, hAn, hSn⟩
                case measure => first | (simp [RowKit.intOf]; done) | (simp [RowKit.intOf]; omega) | omega
              · have hfn := hA.out.none hz
                have hfs : (f ⟨zp, zt, zm⟩).isSome = false := by rw [hfn]; rfl
                rw [hfs] at hlook
                have hst := hsc.out
                rw [if_neg hz] at hst
                replace hst := Lib.hid hst
                have hba := below_alloc (Below.refl X1.heap.size X1) (Obj.cells #[.int .i64 q0, .int .i64 (q1 : Int), .bool q2, .int .i64 q3] 138)
                have hW3 := Lib.hid (hW2.out.below hba)
                have hS3 := Lib.hid (hS2.out.below hba)
                have hZ3 := Lib.hid (hZ2.out.below hba)
                have ha3 := ha.below hba
                clear hW2 hS2 hZ2 hba ha
                go_upto_region 14 with fail
                clear hlook z0 z1 z2 d1
                generalize X1.alloc (Obj.cells #[.int .i64 q0, .int .i64 (q1 : Int), .bool q2, .int .i64 q3] 138) = X2 at *
                have d1 := hW3.out.m1
                have z0 := hZ3.out.cell (i := 0) (by omega)
                have z1 := hZ3.out.cell (i := 1) (by omega)
                have z2 := hZ3.out.cell (i := 2) (by omega)
                have e0 := hS3.out.r.cell (i := 0) (by omega)
                have e1 := hS3.out.r.cell (i := 1) (by omega)
                have e2 := hS3.out.r.cell (i := 2) (by omega)
                simp only [if_true, if_false, Nat.succ_ne_self, Nat.reduceEqDiff] at z0 z1 z2 e0 e1 e2
                obtain ⟨X3, hr, hA3, hmt⟩ := ha3.put hKz hfn (⟨p', t', m'⟩, (j : Int) - (q : Int))
                simp only [arV, stV] at hr
                have hW4 := Lib.hid (hW3.out.put hmt hA3)
                have hS4 : Hid (AtS X3 ab wb ⟨p', t', m'⟩) := Lib.hid (hS3.out.but (T := fun k => k = mb) ⟨hmt.grown.os, hmt.grown.tape, hmt.grown.output, hmt.grown.size, fun k _ hk => turned_block hmt hk⟩ (fun e => by
                  obtain ⟨es, cl, hh, _⟩ := ha3
                  obtain ⟨cs, hc, _⟩ := hS3.out.r
                  rw [e, hh] at hc
                  cases hc) hW3.out.ne)
                have hZ4 : Hid (SA X3 zb ⟨zp, zt, zm⟩) := Lib.hid (hZ3.out.of_block (turned_block hmt (fun e => by
                  obtain ⟨es, cl, hh, _⟩ := ha3
                  obtain ⟨cs, hc, _⟩ := hZ3.out
                  rw [e, hh] at hc
                  cases hc)))
                have hAf : Hid (Pl.AccF (Pl.inn L (⟨p', t', m'⟩, v') acc (j + 1)) (fun z' => if z' = ⟨zp, zt, zm⟩ then some (⟨p', t', m'⟩, (j : Int) - (q : Int)) else f z')) := Lib.hid (by
                  rw [hst.out]
                  exact hA.out.add hmem.out ((j : Int) - (q : Int)) hz)
                have hmap : (Pl.inn L (⟨p', t', m'⟩, v') acc (j + 1)).map Prod.fst = (Pl.inn L (⟨p', t', m'⟩, v') acc j).map Prod.fst ++ [⟨zp, zt, zm⟩] := by
                  rw [hst.out, List.map_append]
                  rfl
                clear hA3 hmt hW3 hS3 hZ3 ha3
                go_upto_region 15 with fail
                clear hr z0 z1 z2 d1 e0 e1 e2
                have z0 := hZ4.out.cell (i := 0) (by omega)
                have z1 := hZ4.out.cell (i := 1) (by omega)
                have z2 := hZ4.out.cell (i := 2) (by omega)
                simp only [if_true, if_false, Nat.succ_ne_self, Nat.reduceEqDiff] at z0 z1 z2
                obtain ⟨v, d0, o, n1, n2⟩ := hW4.out.o
                have hlen2 : ((Pl.inn L (⟨p', t', m'⟩, v') acc j).map Prod.fst).length ≤ 96 := by rw [List.length_map]; exact Pl.bf_len hm1 hok.out hp hB.out
                have AP := Lib.hid (fun (w4 : World) (v' : Value) (o : Obj) => hW4.out.app (w4 := w4) (v' := v') (o := o) d0 (y := ⟨zp, zt, zm⟩))
                have ASP := Lib.hid (fun (w4 : World) (v' : Value) (o : Obj) => hS4.out.app (w4 := w4) (v' := v') (o := o) hwab d0)
                obtain ⟨nl, hnl⟩ : ∃ nl, ((Pl.inn L (⟨p', t', m'⟩, v') acc j).map Prod.fst).length = nl := ⟨_, rfl⟩
                rw [hnl] at o hlen2 AP
                have hsz3 := hW4.out.hm
                obtain ⟨nm, ham⟩ := hW4.out.am
                have hszm := ham.lt
                clear hW4 ham
                go_wp2_with (first
                  | (at_builtin; refine wpList_append_own_at _ rfl (.tmp 71) (.tmp 73) 89 rfl (w.heap.size + 3) 111 i0 (.agg #[.int .i64 0, .int .i64 0, .bool false]) 3 24 Tryd.underlying89 hi hz0 hz1 hz2 rfl (by decide) _ _ _ rfl (o.alloc _) ⟨X3.heap.size, 0, none⟩ 1 1 [.int .i64 zp, .int .i64 (zt : Int), .bool zm] rfl rfl ?c1 ?c2 ?c3 ?c4 ?c5 ?_)
                  | fail)
                case c2 => first | exact ⟨rfl, rfl, rfl⟩ | (intro u hu; simp at hu; rcases hu with rfl | rfl | rfl <;> rfl)
                case c3 => unfold maxLen; omega
                case c4 => omega
                case c5 => first | omega | (simp; omega)
                intro v'' w4 hown' hgrow hnn hat
                obtain ⟨pp, cpp, rfl⟩ := ownForm hown'
                obtain ⟨q0', g0', hWn⟩ := AP.out _ _ _ hown' hgrow hat
                rw [← hmap] at hWn
                replace hWn := Lib.hid hWn
                have hSn := Lib.hid (ASP.out _ _ _ hgrow hat q0')
                clear ASP hnl
                clear AP hown' hgrow hnn hat hst hmap
                go_wp2
                go_roundw
                case rel => exact ⟨j + 1, _, by omega, by go_num, hWn, hAf, hSn⟩
                case measure => first | (simp [RowKit.intOf]; done) | (simp [RowKit.intOf]; omega) | omega
          · obtain rfl : j = 2 * q := by omega
            have hneg : ¬ (((2 * q : Nat) : Int) - (q : Int)) < (q : Int) := by omega
            have hall := Pl.inn_all L (⟨p', t', m'⟩, v') acc (j := 2 * q) (by omega)
            have hF2 := Lib.hid (hF.out.next hx.out)
            have hR2 := Lib.hid ((Pl.bfs_more (L := L) hx.out (by omega)).symm.trans hR.out)
            rw [hall] at hW hA
            have hlt3 : k + 1 ≤ ((Pl.stps L.length).foldl (Pl.addS (Pl.adv L) (⟨p', t', m'⟩, v')) acc).length := by
              have h1 := (Pl.Bf.fold (Pl.stps L.length) acc (fun _ h => h) hF.out hx.out).2.1
              have := (List.getElem?_eq_some_iff.1 h1).1
              omega
            clear hB hBx hall hSA hF hR s0 s1
            go_wp2
            go_roundw
            case rel => exact ⟨k + 1, _, f, hlt3, by go_num, hW, hA, hF2, hR2⟩
            case measure => first | (simp [RowKit.intOf]; done) | (simp [RowKit.intOf]; omega) | omega
      · obtain rfl : k = acc.length := by omega
        have hi5 : ¬ ((acc.length : Nat) : Int) < ((acc.length : Nat) : Int) := by omega
        rw [Pl.bfs_done (Nat.le_refl _)] at hR
        have m1 := hW.out.m1
        have r0 := hW.out.r.cell (i := 0) (by omega)
        have r1 := hW.out.r.cell (i := 1) (by omega)
        have r2 := hW.out.r.frozen 0
        have r3 := hW.out.r.frozen 1
        simp only [if_true, if_false, Nat.succ_ne_self] at r0 r1
        have hB9 := hW.out.b
        have hbut : But (fun k => k = w.heap.size + 1) wr ((wr.setCell ⟨w.heap.size + 1, 0, none⟩ (.slice a' acc.length cp)).setCell ⟨w.heap.size + 1, 1, none⟩ (.map (some mb))) := ((But.refl (fun k => k = w.heap.size + 1) wr).setCell (p := ⟨w.heap.size + 1, 0, none⟩) (.inr rfl) _).setCell (p := ⟨w.heap.size + 1, 1, none⟩) (.inr rfl) _
        have hSf : Hid (StsAt ((wr.setCell ⟨w.heap.size + 1, 0, none⟩ (.slice a' acc.length cp)).setCell ⟨w.heap.size + 1, 1, none⟩ (.map (some mb))) a' (acc.map Prod.fst)) := Lib.hid (by
          obtain ⟨v9, d9, o9, _⟩ := hW.out.o
          rw [d0] at d9
          obtain rfl := Option.some.inj d9
          have h := ownBut o9 hbut (fun g hg e => by have := (o9.lt g hg).1; omega)
          obtain ⟨a9, c9, e9, h9⟩ := sts_of_owns rfl h
          simp only [Value.slice.injEq] at e9
          obtain ⟨rfl, _, _⟩ := e9
          exact h9)
        have hmf : Hid (∃ k, AM ((wr.setCell ⟨w.heap.size + 1, 0, none⟩ (.slice a' acc.length cp)).setCell ⟨w.heap.size + 1, 1, none⟩ (.map (some mb))) mb k f) := Lib.hid (by
          obtain ⟨k9, h9⟩ := hW.out.am
          have := hW.out.hm
          exact ⟨k9, (h9.set ⟨w.heap.size + 1, 0, none⟩ (by simp only; omega) _).set ⟨w.heap.size + 1, 1, none⟩ (by simp only; omega) _⟩)
        have hbf := hB9.trans (hbut.below hB9.size (fun k hk e => by omega))
        have c9 : ((wr.setCell ⟨w.heap.size + 1, 0, none⟩ (.slice a' acc.length cp)).setCell ⟨w.heap.size + 1, 1, none⟩ (.map (some mb))).cell? ⟨w.heap.size + 1, 0, none⟩ = some (.slice a' acc.length cp) := by simp [go_sem, r0]
        have c8 : ((wr.setCell ⟨w.heap.size + 1, 0, none⟩ (.slice a' acc.length cp)).setCell ⟨w.heap.size + 1, 1, none⟩ (.map (some mb))).cell? ⟨w.heap.size + 1, 1, none⟩ = some (.map (some mb)) := by simp [go_sem, r1]
        clear hW hS hB9 hbut
        go_wp2
        generalize (wr.setCell ⟨w.heap.size + 1, 0, none⟩ (.slice a' acc.length cp)).setCell ⟨w.heap.size + 1, 1, none⟩ (.map (some mb)) = V at *
        refine bodyPost_ret (v := .agg #[.slice a' acc.length cp, .map (some mb)]) (by simp [results, Tryd.results50, go_sem, c9, c8]) rfl ?_
        have e1 := hR.out
        subst e1
        exact ⟨a', _, cp, mb, f, rfl, rfl, hSf, hmf, hA, hbf⟩
end Go.Proofs.YtidcedilfhmllaaDoor

/- A table of heights: rows of one's own, and a row of them; made, and written. -/
namespace Go.Proofs.YtidcedilfhmllaaDoor
open Go.RowKit

theorem run_makeP {P : Program} (t e : TypeId) (z : Value) (size bytes : Nat) (cs : Array Value) (ht : P.underlying t = some (.slice e)) (hinfo : (P.info? e).map (fun i => (i.zero, i.size, i.bytes)) = some (some z, size, bytes)) (hcs : z.cells = cs)
    (kl kc : IntKind) (n : Nat) (hbytes : bytes * n ≤ 281474976710656) (h63 : n ≤ 9223372036854775807) (w : World) :
    (Instr.makeSlice t (.int kl (n : Int)) (.int kc (n : Int))).run P w = .ok (.slice (some ⟨w.heap.size, 0, none⟩) n n) (w.alloc (.cells (madeCells cs (n * size)) e)) := by
  obtain ⟨i, hi, hz, hs, hb⟩ := info_parts hinfo
  have hb' : (i.bytes : Int) * (n : Int) ≤ 281474976710656 := by
    have h : ((i.bytes * n : Nat) : Int) ≤ 281474976710656 := by rw [hb]; omega
    rwa [Int.natCast_mul] at h
  have hr := run_make (P := P) w t e i z ht hi hz kl kc n n (by omega) (Int.le_refl _) hb' (by omega)
  simp only [Int.toNat_natCast, hs, hcs] at hr
  exact hr
theorem rowIs_made (w : World) (v : Value) (n : Nat) (t : TypeId) : (w.alloc (.cells (madeCells #[v] n) t)).rowIs w.heap.size t n (fun _ => v) := by
  have h := World.rowIs_alloc w (madeCells #[v] n) t (fun _ => v) (fun i hi => by
    rw [size_madeCells] at hi
    unfold madeCells
    rw [Array.getElem?_map, Array.getElem?_range, if_pos hi]
    have e : i % 1 = 0 := Nat.mod_one i
    simp [e])
  rw [size_madeCells] at h
  exact h
theorem infoInts : (Tryd.prog.info? 22).map (fun i => (i.zero, i.size, i.bytes)) = some (some (.slice none 0 0), 1, 24) := by kernel_rfl
theorem mkInts (n : Nat) (hn : n ≤ 100000) (w : World) : (Instr.makeSlice 22 (.int .i64 (n : Int)) (.int .i64 (n : Int))).run Tryd.prog w = .ok (.slice (some ⟨w.heap.size, 0, none⟩) n n) (w.alloc (.cells (madeCells #[.int .i64 0] n) 3)) := by
  have h := run_makeP (P := Tryd.prog) 22 3 _ 1 8 #[.int .i64 0] Tryd.underlying22 infoI64 rfl .i64 .i64 n (by omega) (by omega) w
  rwa [Nat.mul_one] at h
theorem mkTable (n : Nat) (hn : n ≤ 100000) (w : World) : (Instr.makeSlice 50 (.int .i64 (n : Int)) (.int .i64 (n : Int))).run Tryd.prog w = .ok (.slice (some ⟨w.heap.size, 0, none⟩) n n) (w.alloc (.cells (madeCells #[.slice none 0 0] n) 22)) := by
  have h := run_makeP (P := Tryd.prog) 50 22 _ 1 24 #[.slice none 0 0] Tryd.underlying50 infoInts rfl .i64 .i64 n (by omega) (by omega) w
  rwa [Nat.mul_one] at h

/-- rows of heights below k, behind a row of slices -/
structure MX (B : Nat) (W : World) (pb m N k : Nat) (rb : Nat → Nat) (P : Nat → Nat → Int) : Prop where
  p : W.rowIs pb 22 m (fun i => if i < k then .slice (some ⟨rb i, 0, none⟩) N N else .slice none 0 0)
  r : ∀ i, i < k → W.rowIs (rb i) 3 N (fun c => .int .i64 (P i c))
  d : ∀ i j, i < k → j < k → rb i = rb j → i = j
  q : ∀ i, i < k → B ≤ rb i
  g : pb < B
theorem MX.but {T : Nat → Prop} {B : Nat} {W W' : World} {pb m N k : Nat} {rb : Nat → Nat} {P : Nat → Nat → Int} (h : MX B W pb m N k rb P) (hb : But T W W') (h1 : ¬ T pb) (h2 : ∀ i, i < k → ¬ T (rb i)) : MX B W' pb m N k rb P :=
  ⟨hb.row h.p h1, fun i hi => hb.row (h.r i hi) (h2 i hi), h.d, h.q, h.g⟩
theorem MX.below {B : Nat} {W W' : World} {pb m N k : Nat} {rb : Nat → Nat} {P : Nat → Nat → Int} (h : MX B W pb m N k rb P) (hb : Below W.heap.size W W') : MX B W' pb m N k rb P :=
  h.but (T := fun _ => False) ((But.of_below hb).mono (fun _ _ h => h)) id (fun _ _ h => h)
theorem MX.start (W : World) (B m N : Nat) (hB : W.heap.size < B) (rb : Nat → Nat) (P : Nat → Nat → Int) : MX B (W.alloc (.cells (madeCells #[.slice none 0 0] m) 22)) W.heap.size m N 0 rb P :=
  ⟨(rowIs_made W _ m _).congr (fun i _ => by simp), fun i hi => by omega, fun i j hi => by omega, fun i hi => by omega, hB⟩
/-- one more row -/
theorem MX.more {B : Nat} {W : World} {pb m N k : Nat} {rb : Nat → Nat} (h : MX B W pb m N k rb (fun _ _ => 0)) (hk : k < m) (hBW : B ≤ W.heap.size) : MX B ((W.alloc (.cells (madeCells #[.int .i64 0] N) 3)).setCell ⟨pb, k, none⟩ (.slice (some ⟨W.heap.size, 0, none⟩) N N)) pb m N (k + 1) (fun i => if i = k then W.heap.size else rb i) (fun _ _ => 0) := by
  have hA := h.below (below_alloc (Below.refl W.heap.size W) (Obj.cells (madeCells #[.int .i64 0] N) 3))
  have hp := h.p.lt
  have hr : ∀ i, i < k → rb i < W.heap.size := fun i hi => (h.r i hi).lt
  have hs : But (fun g => g = pb) (W.alloc (.cells (madeCells #[.int .i64 0] N) 3)) ((W.alloc (.cells (madeCells #[.int .i64 0] N) 3)).setCell ⟨pb, k, none⟩ (.slice (some ⟨W.heap.size, 0, none⟩) N N)) := (But.refl (fun g => g = pb) _).setCell (p := ⟨pb, k, none⟩) (.inr rfl) _
  refine ⟨(hA.p.set k _).congr (fun i _ => ?_), fun i hi => ?_, fun i j hi hj e => ?_, fun i hi => ?_, h.g⟩
  · by_cases e : i = k
    · subst e
      simp
    · by_cases e2 : i < k
      · simp [e, e2, show i < k + 1 by omega]
      · simp [e, e2, show ¬ i < k + 1 by omega]
  · by_cases e : i = k
    · subst e
      simp only [if_true]
      exact hs.row (rowIs_made W _ N _) (by omega)
    · simp only [e, if_false]
      exact hs.row (hA.r i (by omega)) (fun e2 => by have := h.q i (by omega); have := h.g; omega)
  · by_cases e1 : i = k
    · by_cases e2 : j = k
      · omega
      · simp only [e1, e2, if_true, if_false] at e
        have := hr j (by omega)
        omega
    · by_cases e2 : j = k
      · simp only [e1, e2, if_true, if_false] at e
        have := hr i (by omega)
        omega
      · simp only [e1, e2, if_false] at e
        exact h.d i j (by omega) (by omega) e
  · by_cases e : i = k
    · simp only [e, if_true]
      omega
    · simp only [e, if_false]
      exact h.q i (by omega)
/-- a height is written -/
theorem MX.put {B : Nat} {W : World} {pb m N k : Nat} {rb : Nat → Nat} {P : Nat → Nat → Int} (h : MX B W pb m N k rb P) {q : Nat} (hq : q < k) (y : Nat) (v : Int) : MX B (W.setCell ⟨rb q, y, none⟩ (.int .i64 v)) pb m N k rb (Pl.pcs P q y v) := by
  have hs : But (fun g => g = rb q) W (W.setCell ⟨rb q, y, none⟩ (.int .i64 v)) := (But.refl (fun g => g = rb q) W).setCell (p := ⟨rb q, y, none⟩) (.inr rfl) _
  refine ⟨hs.row h.p (fun e => by have := h.q q hq; have := h.g; omega), fun i hi => ?_, h.d, h.q, h.g⟩
  by_cases e : i = q
  · subst e
    refine ((h.r i hi).set y _).congr (fun c _ => ?_)
    unfold Pl.pcs
    by_cases e : c = y <;> simp [e]
  · refine (hs.row (h.r i hi) (fun e2 => e (h.d i q hi hq e2))).congr (fun c _ => ?_)
    unfold Pl.pcs
    simp [e]
theorem MX.keeps {B : Nat} {W W' : World} {pb m N k : Nat} {rb : Nat → Nat} {P : Nat → Nat → Int} (h : MX B W pb m N k rb P) {q : Nat} (hq : q < k) (hb : But (fun g => g = rb q) W W') : KeepsOthers W W' :=
  ⟨hb.size, fun k o hk ho => by
    have hne : ¬ k = rb q := fun e => by
      obtain ⟨cs, h1, _⟩ := h.r q hq
      rw [e, h1] at hk
      obtain rfl := Option.some.inj hk
      cases ho
    exact (hb.block k (Array.getElem?_eq_some_iff.1 hk).1 hne).trans hk⟩
end Go.Proofs.YtidcedilfhmllaaDoor
