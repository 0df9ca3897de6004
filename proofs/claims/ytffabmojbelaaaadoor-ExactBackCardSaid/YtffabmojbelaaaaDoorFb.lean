/- The contract of foldBack of package exact. -/
import Derived.Test.YtffabmojbelaaaaDoorVb
import Derived.Test.YtffabmojbelaaaaDoorWa
import Derived.Test.YtffabmojbelaaaaDoorRf
namespace Go.Proofs.YtffabmojbelaaaaDoor
open Go.RowKit Go.Shelf
attribute [local go_sem] Oper.semAt_some

/-- the cells that the loop reads and writes: p the box of the rest, q the first of the results' boxes -/
structure FbCells (q p : Nat) (x y r0 r1 e0 : Int) (W : World) : Prop where
  p0 : W.cell? ⟨p, 0, none⟩ = some (.int .i64 x)
  p1 : W.cell? ⟨p, 1, none⟩ = some (.int .i64 y)
  pf : ∀ o, W.frozen? ⟨p, o, none⟩ = false
  r0 : W.cell? ⟨q, 0, none⟩ = some (.int .i64 r0)
  r1 : W.cell? ⟨q, 1, none⟩ = some (.int .i64 r1)
  rf : ∀ o, W.frozen? ⟨q, o, none⟩ = false
  e0 : W.cell? ⟨q + 1, 0, none⟩ = some (.int .i64 e0)
  ef : ∀ o, W.frozen? ⟨q + 1, o, none⟩ = false

theorem FbCells.kept {q p : Nat} {x y r0 r1 e0 : Int} {A B : World} {row : Option Nat} (h : FbCells q p x y r0 r1 e0 A) (hg : A.grownBy B row) (hr : ∀ r, row = some r → ∃ o : Obj, A.heap[r]? = some o ∧ o.isCells = false) :
    FbCells q p x y r0 r1 e0 B := by
  have fz : ∀ {b : Nat} {v : Value}, A.cell? ⟨b, 0, none⟩ = some v → (∀ o, A.frozen? ⟨b, o, none⟩ = false) → ∀ o, B.frozen? ⟨b, o, none⟩ = false := by
    intro b v hc hf o
    obtain ⟨ob, ho, hcs⟩ := cells_of_cell hc
    rw [World.frozen?_of_block (w := A) (w' := B) (a := ⟨b, o, none⟩) (grownBy_keeps_cells hg hr ho hcs)]
    exact hf o
  exact ⟨cell_kept h.p0 hg hr, cell_kept h.p1 hg hr, fz h.p0 h.pf, cell_kept h.r0 hg hr, cell_kept h.r1 hg hr, fz h.r0 h.rf, cell_kept h.e0 hg hr, fz h.e0 h.ef⟩
theorem BK.kept {b cap : Nat} {ao : Option Addr} {l : List Int} {A B : World} {row : Option Nat} (h : BK b ao cap l A) (hg : A.grownBy B row) (hr : ∀ r, row = some r → ∃ o : Obj, A.heap[r]? = some o ∧ o.isCells = false) : BK b ao cap l B := by
  refine ⟨cell_kept h.1 hg hr, fun k hk => ?_⟩
  obtain ⟨x, hx, hc⟩ := h.2 k hk
  exact ⟨x, hx, cell_kept hc hg hr⟩

/-- what has been folded behind pre.length steps -/
def fbK (xs : List Int) (j : Nat) : Int × Int := Rt.K (xs.drop (xs.length - j))
def FbI (xs : List Int) (q p b cap : Nat) (ao : Option Addr) (w : World) (pre : List (Int × Int)) (W : World) : Prop :=
  (FbCells q p (fbK xs pre.length).1 (fbK xs pre.length).2 0 0 0 W ∧ (fbK xs pre.length).1 ≤ 2147483647 ∧ BK b ao cap xs W) ∧ Below w.heap.size w W
def FbX (xs : List Int) (q : Nat) (w : World) (_pre : List (Int × Int)) (W : World) : Prop :=
  (2147483647 < (Rt.K xs).1 ∧ W.cell? ⟨q, 0, none⟩ = some (.int .i64 0) ∧ W.cell? ⟨q, 1, none⟩ = some (.int .i64 0) ∧ W.cell? ⟨q + 1, 0, none⟩ = some (.int .i64 3)) ∧ Below w.heap.size w W
theorem fbI_own (xs : List Int) (q p b cap : Nat) (ao : Option Addr) (w : World) (B : Nat) (hB : w.heap.size ≤ B) : OwnFrom B (FbI xs q p b cap ao w) := by
  intro s X Y row hs hg hr
  obtain ⟨⟨a1, a2, a3⟩, hb⟩ := hs
  exact ⟨⟨a1.kept hg (fun r e => (hr r e).2), a2, a3.kept hg (fun r e => (hr r e).2)⟩, ownFrom_below (β := List (Int × Int)) (Nat.le_refl _) hB s X Y row hb hg hr⟩
theorem fbX_own (xs : List Int) (q : Nat) (w : World) (B : Nat) (hB : w.heap.size ≤ B) : OwnFrom B (FbX xs q w) := by
  intro s X Y row hs hg hr
  obtain ⟨⟨a2, a3, a4, a5⟩, hb⟩ := hs
  have hr2 := fun r e => (hr r e).2
  exact ⟨⟨a2, cell_kept a3 hg hr2, cell_kept a4 hg hr2, cell_kept a5 hg hr2⟩, ownFrom_below (β := List (Int × Int)) (Nat.le_refl _) hB s X Y row hb hg hr⟩

theorem fbK_zero (xs : List Int) : fbK xs 0 = (1, 0) := by unfold fbK; simp [Rt.K_nil]
theorem fbK_all (xs : List Int) : fbK xs xs.length = Rt.K xs := by unfold fbK; simp
theorem fbK_step {xs : List Int} {j : Nat} (h : j < xs.length) : fbK xs (j + 1) = (xs.getD (xs.length - 1 - j) 0 * (fbK xs j).1 + (fbK xs j).2, (fbK xs j).1) := by
  unfold fbK
  have e : xs.length - (j + 1) = xs.length - 1 - j := by omega
  have h2 : xs.length - 1 - j < xs.length := by omega
  rw [e, List.drop_eq_getElem_cons h2, Rt.K_cons, show xs.length - 1 - j + 1 = xs.length - j by omega]
  simp [h2]
theorem fbK_mono {xs : List Int} (h : ∀ x ∈ xs, 1 ≤ x) (j : Nat) : (fbK xs j).1 ≤ (Rt.K xs).1 := by
  have := Rt.K_mono (xs.take (xs.length - j)) (xs.drop (xs.length - j)) (by rw [List.take_append_drop]; exact h)
  rw [List.take_append_drop] at this
  exact this
theorem fbK_up {xs : List Int} (h : ∀ x ∈ xs, 1 ≤ x) {j : Nat} (hj : j < xs.length) : 1 ≤ xs.getD (xs.length - 1 - j) 0 ∧ xs.getD (xs.length - 1 - j) 0 ≤ (fbK xs (j + 1)).1 := by
  have h2 : xs.length - 1 - j < xs.length := by omega
  have e : xs.length - (j + 1) = xs.length - 1 - j := by omega
  have hm : xs.getD (xs.length - 1 - j) 0 ∈ xs := by
    rw [List.getD_eq_getElem?_getD, List.getElem?_eq_getElem h2]; exact List.getElem_mem h2
  refine ⟨h _ hm, ?_⟩
  unfold fbK
  rw [e, List.drop_eq_getElem_cons h2]
  have := (Rt.K_up (t := xs[xs.length - 1 - j]) (ts := xs.drop (xs.length - 1 - j + 1)) (h _ (List.getElem_mem h2)) (fun y hy => h y (List.mem_of_mem_drop hy))).2
  simpa [h2] using this
theorem fbK_pos {xs : List Int} (h : ∀ x ∈ xs, 1 ≤ x) (j : Nat) : 1 ≤ (fbK xs j).1 ∧ 0 ≤ (fbK xs j).2 ∧ (fbK xs j).2 ≤ (fbK xs j).1 := by
  have := Rt.K_pos (xs.drop (xs.length - j)) (fun y hy => h y (List.mem_of_mem_drop hy))
  exact this

set_option maxRecDepth 100000 in
set_option maxHeartbeats 6000000 in
theorem foldback_r (xs : List Int) (ao : Option Addr) (cap : Nat) (hlen : xs.length ≤ 60) (hxs : ∀ x ∈ xs, 1 ≤ x) (w : World) (hc : ∀ k, k < xs.length → ∃ x, ao = some x ∧ w.cell? (x.add k) = some (.int .i64 (xs.getD k 0))) (r : Rt.Num) (hr : Hid ((if (Rt.K xs).1 ≤ 2147483647 then ⟨(Rt.K xs).1, (Rt.K xs).2, 0⟩ else ⟨0, 0, 3⟩) = r)) :
    Calls Tryd.prog 95 #[.slice ao xs.length cap] w fun e w' => e = .returned (numV r) ∧ Below w.heap.size w w' := by
  replace hc := Lib.hid hc
  replace hxs := Lib.hid hxs
  refine (callsIn_wide (n := 5)).1 ?_
  refine callsIn_of_wp_marks Tryd.func95 rfl trivial ?_ rfl
  simp only [Tryd.ntmps95, List.size_toArray, List.length_cons, List.length_nil, Nat.reduceAdd, Nat.reduceSub, Array.replicate_succ, Array.replicate_zero, List.push_toArray, List.append_toArray, List.nil_append, List.cons_append]
  gi_wp2_with (first
    | (refine ⟨trivial, ?_⟩
       gi_at_call 115
       refine (callsIn_wide.2 (back_any _ _ _ _)).mono ?_
       rintro e w2 ⟨rfl, hw2⟩
       subst hw2))
  refine range_next2 (n := 5) (by omega) (gf := 122) (lb := #[.pointer (some ⟨w.heap.size + 1 + 1 + 1, 0, none⟩)]) rfl (enters_of Tryd.func122 (by kernel_rfl) rfl)
    (back_hands 4 (by omega) (w.heap.size + 1 + 1 + 1) ao cap xs hlen _) (Below.refl _ _)
    (FbI xs w.heap.size (w.heap.size + 1 + 1) (w.heap.size + 1 + 1 + 1) cap ao w) (FbX xs w.heap.size w) (fbI_own _ _ _ _ _ _ _ _ (by first | (simp; done) | (simp; omega) | omega)) (fbX_own _ _ _ _ (by first | (simp; done) | (simp; omega) | omega)) (fun pre W h => h.1.2.2) ?init
    (fun x => { tmps := #[.slice ao xs.length cap, undef, .pointer (some ⟨w.heap.size, 0, none⟩), .pointer (some ⟨w.heap.size + 1, 0, none⟩), .pointer (some ⟨w.heap.size + 1 + 1, 0, none⟩), undef, .int .i64 x.2, .agg #[.int .i64 1, .int .i64 0], .slice ao xs.length cap, .func (.func 122) #[] #[.pointer (some ⟨w.heap.size + 1 + 1 + 1, 0, none⟩)], .int .i64 x.1, .int .i64 x.2, undef, undef, undef, undef, undef, undef, undef, undef, undef, undef, undef, undef, undef, undef, undef, undef, undef, undef], defers := [] }) ?assign ?body ?done ?stop
  case init =>
    have hv0 : Below w.heap.size w ((((w.alloc (Obj.cells #[.int .i64 0, .int .i64 0] 23)).alloc (Obj.cells #[.int .i64 0] 24)).alloc (Obj.cells #[.int .i64 1, .int .i64 0] 23)).alloc (Obj.cells #[.slice ao xs.length cap] 49)) := (by repeat (first | with_reducible exact Below.refl _ _ | with_reducible assumption | refine below_drewN ?_ _ | refine Below.drew ?_ | refine Below.alloc ?_ (by first | (simp; done) | (simp; omega) | omega) _ | refine Below.setCell ?_ (by first | (simp; done) | (simp; omega) | omega) _ | refine Below.trans ?_ (Below.mono (by assumption) (by first | (simp; done) | (simp; omega) | omega))))
    refine ⟨⟨⟨by simp [go_sem, fbK_zero], by simp [go_sem, fbK_zero], fun o => by simp [go_sem], by simp [go_sem], by simp [go_sem], fun o => by simp [go_sem], by simp [go_sem], fun o => by simp [go_sem]⟩, by simp [fbK_zero], by simp [go_sem], fun k hk => ?_⟩, hv0⟩
    obtain ⟨x, hx, hcx⟩ := hc.out k hk
    exact ⟨x, hx, (hv0.cell (block_lt_of_cell hcx)).trans hcx⟩
  case assign =>
    intro l x W K hK
    obtain ⟨x1, x2⟩ := x
    simp only [pv]
    gi_wp2
    exact hK
  case body =>
    rintro l pre x W ⟨⟨hcl, hm, hbk⟩, hb⟩ hpre
    obtain ⟨hj, hx⟩ := bkw_last hpre
    have st := fbK_step hj
    have up := fbK_up hxs.out hj
    have mo := fbK_mono hxs.out (pre.length + 1)
    have po := fbK_pos hxs.out pre.length
    obtain ⟨i, t⟩ := x
    obtain ⟨rfl, rfl⟩ := Prod.mk.inj hx
    have hpl : (pre ++ [(((xs.length - 1 - pre.length : Nat) : Int), xs.getD (xs.length - 1 - pre.length) 0)]).length = pre.length + 1 := by simp
    unfold FbI FbX
    rw [hpl]
    generalize hk1 : fbK xs (pre.length + 1) = k1 at *
    generalize hk0 : fbK xs pre.length = k0 at *
    obtain ⟨x0, y0⟩ := k0
    subst st
    generalize xs.getD (xs.length - 1 - pre.length) 0 = t at *
    generalize (((xs.length - 1 - pre.length : Nat) : Int)) = i at *
    simp only at hcl hm up mo po
    obtain ⟨g0, g1, gf, r0, r1, rf, e0, ef⟩ := hcl
    replace hbk := Lib.hid hbk
    clear hpre hx hpl hk1 hk0
    by_cases ht : 2147483647 < t
    · gi_wp2
      exact ⟨(((KeepsOthers.setCell _ _ _).trans (KeepsOthers.setCell _ _ _)).trans (KeepsOthers.setCell _ _ _)).from _, by omega, (by repeat (first | with_reducible exact Below.refl _ _ | with_reducible assumption | refine below_drewN ?_ _ | refine Below.drew ?_ | refine Below.alloc ?_ (by first | (simp; done) | (simp; omega) | omega) _ | refine Below.setCell ?_ (by first | (simp; done) | (simp; omega) | omega) _ | refine Below.trans ?_ (Below.mono (by assumption) (by first | (simp; done) | (simp; omega) | omega))))⟩
    · have hz := hb.size
      have b := Rt.K_step (t := t) (n := x0) (d := y0) (by omega) (by omega) (by omega)
      have b2 : -4611686018427387904 ≤ t * x0 ∧ t * x0 ≤ 4611686018427387904 := b
      have b3 : -4611686018427387904 ≤ t * x0 + y0 ∧ t * x0 + y0 ≤ 9223372036854775807 := by omega
      clear b
      by_cases hn : 2147483647 < t * x0 + y0
      · gi_wp2
        exact ⟨(((((KeepsOthers.setCell _ _ _).trans (KeepsOthers.setCell _ _ _)).trans (KeepsOthers.setCell _ _ _)).trans (KeepsOthers.setCell _ _ _)).trans (KeepsOthers.setCell _ _ _)).from _, by omega, (by repeat (first | with_reducible exact Below.refl _ _ | with_reducible assumption | refine below_drewN ?_ _ | refine Below.drew ?_ | refine Below.alloc ?_ (by first | (simp; done) | (simp; omega) | omega) _ | refine Below.setCell ?_ (by first | (simp; done) | (simp; omega) | omega) _ | refine Below.trans ?_ (Below.mono (by assumption) (by first | (simp; done) | (simp; omega) | omega))))⟩
      · gi_wp2
        have hb3 : Below w.heap.size w ((W.setCell ⟨w.heap.size + 1 + 1, 0, none⟩ (.int .i64 (t * x0 + y0))).setCell ⟨w.heap.size + 1 + 1, 1, none⟩ (.int .i64 x0)) := (by repeat (first | with_reducible exact Below.refl _ _ | with_reducible assumption | refine below_drewN ?_ _ | refine Below.drew ?_ | refine Below.alloc ?_ (by first | (simp; done) | (simp; omega) | omega) _ | refine Below.setCell ?_ (by first | (simp; done) | (simp; omega) | omega) _ | refine Below.trans ?_ (Below.mono (by assumption) (by first | (simp; done) | (simp; omega) | omega))))
        have h9 : t * x0 + y0 ≤ 2147483647 := by omega
        have hs := hbk.out.1
        have hk9 : BK (w.heap.size + 1 + 1 + 1) ao cap xs ((W.setCell ⟨w.heap.size + 1 + 1, 0, none⟩ (.int .i64 (t * x0 + y0))).setCell ⟨w.heap.size + 1 + 1, 1, none⟩ (.int .i64 x0)) := by
          refine ⟨by simp [go_sem, hs], fun k hk => ?_⟩
          obtain ⟨z, hz1, hz2⟩ := hc.out k hk
          exact ⟨z, hz1, (hb3.cell (block_lt_of_cell hz2)).trans hz2⟩
        have hcl : FbCells w.heap.size (w.heap.size + 1 + 1) (t * x0 + y0) x0 0 0 0 ((W.setCell ⟨w.heap.size + 1 + 1, 0, none⟩ (.int .i64 (t * x0 + y0))).setCell ⟨w.heap.size + 1 + 1, 1, none⟩ (.int .i64 x0)) :=
          ⟨by simp [go_sem, g0], by simp [go_sem, g1], fun o => by simp [go_sem, gf], by simp [go_sem, r0], by simp [go_sem, r1], fun o => by simp [go_sem, rf], by simp [go_sem, e0], fun o => by simp [go_sem, ef]⟩
        have ko : KeepsOthers W ((W.setCell ⟨w.heap.size + 1 + 1, 0, none⟩ (.int .i64 (t * x0 + y0))).setCell ⟨w.heap.size + 1 + 1, 1, none⟩ (.int .i64 x0)) := ((KeepsOthers.setCell _ _ _).trans (KeepsOthers.setCell _ _ _))
        exact ⟨ko.from _, ko.walks, ⟨hcl, hk9⟩, hb3⟩
  case done =>
    rintro E W hE ⟨⟨hcl, hm, hbk⟩, hb⟩ hK
    rw [bkw_len, fbK_all] at hcl hm
    obtain ⟨g0, g1, gf, r0, r1, rf, e0, ef⟩ := hcl
    replace hm := Lib.hid hm
    replace hbk := Lib.hid hbk
    obtain ⟨x0, hx0⟩ : ∃ x0, (Rt.K xs).1 = x0 := ⟨_, rfl⟩
    obtain ⟨y0, hy0⟩ : ∃ y0, (Rt.K xs).2 = y0 := ⟨_, rfl⟩
    rw [hx0] at g0
    rw [hy0] at g1
    replace hx0 := Lib.hid hx0
    replace hy0 := Lib.hid hy0
    gi_wp2
    generalize hW3 : ((W.setCell ⟨w.heap.size, 0, none⟩ (.int .i64 x0)).setCell ⟨w.heap.size, 1, none⟩ (.int .i64 y0)).setCell ⟨w.heap.size + 1, 0, none⟩ (.int .i64 0) = W3
    have a1 : W3.cell? ⟨w.heap.size, 0, none⟩ = some (.int .i64 x0) := by rw [← hW3]; simp [go_sem, r0]
    have a2 : W3.cell? ⟨w.heap.size, 1, none⟩ = some (.int .i64 y0) := by rw [← hW3]; simp [go_sem, r1]
    have a3 : W3.cell? ⟨w.heap.size + 1, 0, none⟩ = some (.int .i64 0) := by rw [← hW3]; simp [go_sem, e0]
    have hK3 : W3.heap[E]? = some (.deferred (some [])) := by rw [← hW3]; exact (((KeepsOthers.setCell W _ _).trans (KeepsOthers.setCell _ _ _)).trans (KeepsOthers.setCell _ _ _)).same E _ hK rfl
    have hb3 : Below w.heap.size w W3 := by rw [← hW3]; exact (by repeat (first | with_reducible exact Below.refl _ _ | with_reducible assumption | refine below_drewN ?_ _ | refine Below.drew ?_ | refine Below.alloc ?_ (by first | (simp; done) | (simp; omega) | omega) _ | refine Below.setCell ?_ (by first | (simp; done) | (simp; omega) | omega) _ | refine Below.trans ?_ (Below.mono (by assumption) (by first | (simp; done) | (simp; omega) | omega))))
    clear hW3
    have kp := fun {p : Addr} {v : Value} (h : W3.cell? p = some v) => cell_kept h (grownBy_putObj' W3 E (.deferred none)) (fun r e => by cases e; exact ⟨_, hK3, rfl⟩)
    have p1 := kp a1
    have p2 := kp a2
    have p3 := kp a3
    refine ⟨by simp, .inl ⟨_, _, rfl, run_takeDeferred hK3, ?_⟩⟩
    refine ⟨numV ⟨x0, y0, 0⟩, by simp [results, Tryd.results95, go_sem, p1, p2, p3, numV], ?_, ?_⟩
    · rw [← hr.out, if_pos hm.out, hx0.out, hy0.out]
    · exact hb3.trans (belowK_b (w := w) (Nat.le_refl _) W3 E _ _ (by simp at hE; omega) hK3 rfl rfl)
  case stop =>
    rintro E pre W hE hpre ⟨⟨hbig, g3, g4, g5⟩, hb⟩ hK
    replace hbig := Lib.hid hbig
    have kp := fun {p : Addr} {v : Value} (h : W.cell? p = some v) => cell_kept h (grownBy_putObj' W E (.deferred none)) (fun r e => by cases e; exact ⟨_, hK, rfl⟩)
    have p1 := kp g3
    have p2 := kp g4
    have p3 := kp g5
    gi_wp2
    refine ⟨by simp, .inl ⟨_, _, rfl, run_takeDeferred hK, ?_⟩⟩
    refine ⟨numV ⟨0, 0, 3⟩, by simp [results, Tryd.results95, go_sem, p1, p2, p3, numV], ?_, ?_⟩
    · rw [← hr.out, if_neg (by have := hbig.out; omega)]
    · exact hb.trans (belowK_b (w := w) (Nat.le_refl _) W E _ _ (by simp at hE; omega) hK rfl rfl)

theorem foldback_any (xs : List Int) (ao : Option Addr) (cap : Nat) (hlen : xs.length ≤ 60) (hxs : ∀ x ∈ xs, 1 ≤ x) (w : World) (hc : ∀ k, k < xs.length → ∃ x, ao = some x ∧ w.cell? (x.add k) = some (.int .i64 (xs.getD k 0))) :
    Calls Tryd.prog 95 #[.slice ao xs.length cap] w fun e w' => e = .returned (numV (if (Rt.K xs).1 ≤ 2147483647 then ⟨(Rt.K xs).1, (Rt.K xs).2, 0⟩ else ⟨0, 0, 3⟩)) ∧ Below w.heap.size w w' :=
  foldback_r xs ao cap hlen hxs w hc _ (Lib.hid rfl)
end Go.Proofs.YtffabmojbelaaaaDoor
