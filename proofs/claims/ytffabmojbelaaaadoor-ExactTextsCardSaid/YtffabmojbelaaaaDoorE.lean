/- Contracts of package exact: Cmp, before, Neg, and the sums (by combine and closures). -/
import Derived.Test.YtffabmojbelaaaaDoorD
namespace Go.Proofs.YtffabmojbelaaaaDoor
open Go.RowKit

set_option maxHeartbeats 400000 in
theorem compare_any (x y : Int) (w : World) :
    Calls Tryd.prog 81 #[.int .i64 x, .int .i64 y] w fun e w' => e = .returned (.int .i64 (Rt.cmpZ x y)) ∧ w' = w := by
  by_cases h1 : x < y
  · have h2 : ¬ y < x := by omega
    go_enter Tryd.func81, Tryd.ntmps81
    go_wp2
    go_ret
    exact ⟨ret_i64 (by unfold Rt.cmpZ; rw [if_pos h1]), rfl⟩
  · by_cases h2 : y < x
    · go_enter Tryd.func81, Tryd.ntmps81
      go_wp2
      go_ret
      exact ⟨ret_i64 (by unfold Rt.cmpZ; rw [if_neg (by omega), if_pos h2]), rfl⟩
    · go_enter Tryd.func81, Tryd.ntmps81
      go_wp2
      go_ret
      exact ⟨ret_i64 (by unfold Rt.cmpZ; rw [if_neg (by omega), if_neg (by omega)]), rfl⟩

set_option maxHeartbeats 400000 in
theorem cmp_bad (a b c d : Int) (h : ¬ (Rt.vldP a b ∧ Rt.vldP c d)) (w : World) :
    Calls Tryd.prog 23 #[.agg #[.int .i64 a, .int .i64 b], .agg #[.int .i64 c, .int .i64 d]] w fun e w' => e = .returned (.tuple #[.int .i64 0, .int .i64 1]) ∧ Below w.heap.size w w' := by
  replace h := Lib.hid h
  go_enter Tryd.func23, Tryd.ntmps23
  go_wp2_with fail
  refine (allv_not a b c d _ h.out (w.heap.size + 1 + 1) (by simp) (by simp [go_sem]) (by simp [go_sem]) (by simp [go_sem]) (by simp [go_sem])).mono ?_
  rintro e w1 ⟨rfl, hb1⟩
  have hz1 := hb1.size
  go_wp2
  go_ret2
  exact ⟨rfl, (by repeat (first | with_reducible exact Below.refl _ _ | with_reducible assumption | refine below_drewN ?_ _ | refine Below.drew ?_ | refine Below.alloc ?_ (by first | (simp; done) | (simp; omega) | omega) _ | refine Below.setCell ?_ (by first | (simp; done) | (simp; omega) | omega) _ | refine Below.trans ?_ (Below.mono (by assumption) (by first | (simp; done) | (simp; omega) | omega))))⟩

set_option maxHeartbeats 400000 in
theorem cmp_self (a b : Int) (h : Rt.vldP a b) (w : World) :
    Calls Tryd.prog 23 #[.agg #[.int .i64 a, .int .i64 b], .agg #[.int .i64 a, .int .i64 b]] w fun e w' => e = .returned (.tuple #[.int .i64 0, .int .i64 0]) ∧ Below w.heap.size w w' := by
  replace h := Lib.hid h
  go_enter Tryd.func23, Tryd.ntmps23
  go_wp2_with fail
  refine (allv_yes a b a b _ h.out h.out (w.heap.size + 1 + 1) (by simp) (by simp [go_sem]) (by simp [go_sem]) (by simp [go_sem]) (by simp [go_sem])).mono ?_
  rintro e w1 ⟨rfl, hb1⟩
  have hz_hb1 := hb1.size
  try simp at hz_hb1
  have hb1_0_k0 : w1.cell? ⟨w.heap.size, 0, none⟩ = some (.int .i64 a) := (hb1.cell (p := ⟨w.heap.size, 0, none⟩) (by first | (simp; done) | (simp; omega) | omega)).trans (by first | assumption | (simp [go_sem]; done) | simp [go_sem, *])
  have hb1_0_k1 : w1.cell? ⟨w.heap.size, 1, none⟩ = some (.int .i64 b) := (hb1.cell (p := ⟨w.heap.size, 1, none⟩) (by first | (simp; done) | (simp; omega) | omega)).trans (by first | assumption | (simp [go_sem]; done) | simp [go_sem, *])
  have hb1_0_f : ∀ o, w1.frozen? ⟨w.heap.size, o, none⟩ = false := fun o => (hb1.frozen (p := ⟨w.heap.size, o, none⟩) (by first | (simp; done) | (simp; omega) | omega)).trans (by first | assumption | (simp [go_sem]; done) | simp [go_sem, *])
  have hb1_0_lt : w.heap.size < w1.heap.size := Nat.lt_of_lt_of_le (m := _) (by first | (simp; done) | (simp; omega) | omega) hb1.size
  have hb1_1_k0 : w1.cell? ⟨w.heap.size + 1, 0, none⟩ = some (.int .i64 a) := (hb1.cell (p := ⟨w.heap.size + 1, 0, none⟩) (by first | (simp; done) | (simp; omega) | omega)).trans (by first | assumption | (simp [go_sem]; done) | simp [go_sem, *])
  have hb1_1_k1 : w1.cell? ⟨w.heap.size + 1, 1, none⟩ = some (.int .i64 b) := (hb1.cell (p := ⟨w.heap.size + 1, 1, none⟩) (by first | (simp; done) | (simp; omega) | omega)).trans (by first | assumption | (simp [go_sem]; done) | simp [go_sem, *])
  have hb1_1_f : ∀ o, w1.frozen? ⟨w.heap.size + 1, o, none⟩ = false := fun o => (hb1.frozen (p := ⟨w.heap.size + 1, o, none⟩) (by first | (simp; done) | (simp; omega) | omega)).trans (by first | assumption | (simp [go_sem]; done) | simp [go_sem, *])
  have hb1_1_lt : w.heap.size + 1 < w1.heap.size := Nat.lt_of_lt_of_le (m := _) (by first | (simp; done) | (simp; omega) | omega) hb1.size
  go_wp2
  go_ret2
  exact ⟨rfl, (by repeat (first | with_reducible exact Below.refl _ _ | with_reducible assumption | refine below_drewN ?_ _ | refine Below.drew ?_ | refine Below.alloc ?_ (by first | (simp; done) | (simp; omega) | omega) _ | refine Below.setCell ?_ (by first | (simp; done) | (simp; omega) | omega) _ | refine Below.trans ?_ (Below.mono (by assumption) (by first | (simp; done) | (simp; omega) | omega))))⟩

set_option maxHeartbeats 400000 in
theorem cmp_two1 (a b c d : Int) (h1 : Rt.vldP a b) (h2 : Rt.vldP c d) (hne : (a == c) = false) (w : World) :
    Calls Tryd.prog 23 #[.agg #[.int .i64 a, .int .i64 b], .agg #[.int .i64 c, .int .i64 d]] w fun e w' => e = .returned (.tuple #[.int .i64 (Rt.cmpZ (a * d) (c * b)), .int .i64 0]) ∧ Below w.heap.size w w' := by
  have ⟨x1, x2, x3, x4, _⟩ := h1
  have ⟨y1, y2, y3, y4, _⟩ := h2
  have p1 := mul31 (x := a) (y := d) (by omega) (by omega)
  have p2 := mul31 (x := c) (y := b) (by omega) (by omega)
  replace h1 := Lib.hid h1
  replace h2 := Lib.hid h2
  clear x1 x2 x3 x4 y1 y2 y3 y4
  go_enter Tryd.func23, Tryd.ntmps23
  go_wp2_with fail
  refine (allv_yes a b c d _ h1.out h2.out (w.heap.size + 1 + 1) (by simp) (by simp [go_sem]) (by simp [go_sem]) (by simp [go_sem]) (by simp [go_sem])).mono ?_
  rintro e w1 ⟨rfl, hb1⟩
  have hz_hb1 := hb1.size
  try simp at hz_hb1
  have hb1_0_k0 : w1.cell? ⟨w.heap.size, 0, none⟩ = some (.int .i64 a) := (hb1.cell (p := ⟨w.heap.size, 0, none⟩) (by first | (simp; done) | (simp; omega) | omega)).trans (by first | assumption | (simp [go_sem]; done) | simp [go_sem, *])
  have hb1_0_k1 : w1.cell? ⟨w.heap.size, 1, none⟩ = some (.int .i64 b) := (hb1.cell (p := ⟨w.heap.size, 1, none⟩) (by first | (simp; done) | (simp; omega) | omega)).trans (by first | assumption | (simp [go_sem]; done) | simp [go_sem, *])
  have hb1_0_f : ∀ o, w1.frozen? ⟨w.heap.size, o, none⟩ = false := fun o => (hb1.frozen (p := ⟨w.heap.size, o, none⟩) (by first | (simp; done) | (simp; omega) | omega)).trans (by first | assumption | (simp [go_sem]; done) | simp [go_sem, *])
  have hb1_0_lt : w.heap.size < w1.heap.size := Nat.lt_of_lt_of_le (m := _) (by first | (simp; done) | (simp; omega) | omega) hb1.size
  have hb1_1_k0 : w1.cell? ⟨w.heap.size + 1, 0, none⟩ = some (.int .i64 c) := (hb1.cell (p := ⟨w.heap.size + 1, 0, none⟩) (by first | (simp; done) | (simp; omega) | omega)).trans (by first | assumption | (simp [go_sem]; done) | simp [go_sem, *])
  have hb1_1_k1 : w1.cell? ⟨w.heap.size + 1, 1, none⟩ = some (.int .i64 d) := (hb1.cell (p := ⟨w.heap.size + 1, 1, none⟩) (by first | (simp; done) | (simp; omega) | omega)).trans (by first | assumption | (simp [go_sem]; done) | simp [go_sem, *])
  have hb1_1_f : ∀ o, w1.frozen? ⟨w.heap.size + 1, o, none⟩ = false := fun o => (hb1.frozen (p := ⟨w.heap.size + 1, o, none⟩) (by first | (simp; done) | (simp; omega) | omega)).trans (by first | assumption | (simp [go_sem]; done) | simp [go_sem, *])
  have hb1_1_lt : w.heap.size + 1 < w1.heap.size := Nat.lt_of_lt_of_le (m := _) (by first | (simp; done) | (simp; omega) | omega) hb1.size
  go_wp2_with (go_at_call 81; refine (compare_any _ _ _).mono ?_; rintro e w2 ⟨rfl, hw2⟩; subst hw2)
  go_ret2
  exact ⟨rfl, (by repeat (first | with_reducible exact Below.refl _ _ | with_reducible assumption | refine below_drewN ?_ _ | refine Below.drew ?_ | refine Below.alloc ?_ (by first | (simp; done) | (simp; omega) | omega) _ | refine Below.setCell ?_ (by first | (simp; done) | (simp; omega) | omega) _ | refine Below.trans ?_ (Below.mono (by assumption) (by first | (simp; done) | (simp; omega) | omega))))⟩

set_option maxHeartbeats 400000 in
theorem cmp_two2 (a b d : Int) (h1 : Rt.vldP a b) (h2 : Rt.vldP a d) (hne : (b == d) = false) (w : World) :
    Calls Tryd.prog 23 #[.agg #[.int .i64 a, .int .i64 b], .agg #[.int .i64 a, .int .i64 d]] w fun e w' => e = .returned (.tuple #[.int .i64 (Rt.cmpZ (a * d) (a * b)), .int .i64 0]) ∧ Below w.heap.size w w' := by
  have ⟨x1, x2, x3, x4, _⟩ := h1
  have ⟨y1, y2, y3, y4, _⟩ := h2
  have p1 := mul31 (x := a) (y := d) (by omega) (by omega)
  have p2 := mul31 (x := a) (y := b) (by omega) (by omega)
  replace h1 := Lib.hid h1
  replace h2 := Lib.hid h2
  clear x1 x2 x3 x4 y1 y2 y3 y4
  go_enter Tryd.func23, Tryd.ntmps23
  go_wp2_with fail
  refine (allv_yes a b a d _ h1.out h2.out (w.heap.size + 1 + 1) (by simp) (by simp [go_sem]) (by simp [go_sem]) (by simp [go_sem]) (by simp [go_sem])).mono ?_
  rintro e w1 ⟨rfl, hb1⟩
  have hz_hb1 := hb1.size
  try simp at hz_hb1
  have hb1_0_k0 : w1.cell? ⟨w.heap.size, 0, none⟩ = some (.int .i64 a) := (hb1.cell (p := ⟨w.heap.size, 0, none⟩) (by first | (simp; done) | (simp; omega) | omega)).trans (by first | assumption | (simp [go_sem]; done) | simp [go_sem, *])
  have hb1_0_k1 : w1.cell? ⟨w.heap.size, 1, none⟩ = some (.int .i64 b) := (hb1.cell (p := ⟨w.heap.size, 1, none⟩) (by first | (simp; done) | (simp; omega) | omega)).trans (by first | assumption | (simp [go_sem]; done) | simp [go_sem, *])
  have hb1_0_f : ∀ o, w1.frozen? ⟨w.heap.size, o, none⟩ = false := fun o => (hb1.frozen (p := ⟨w.heap.size, o, none⟩) (by first | (simp; done) | (simp; omega) | omega)).trans (by first | assumption | (simp [go_sem]; done) | simp [go_sem, *])
  have hb1_0_lt : w.heap.size < w1.heap.size := Nat.lt_of_lt_of_le (m := _) (by first | (simp; done) | (simp; omega) | omega) hb1.size
  have hb1_1_k0 : w1.cell? ⟨w.heap.size + 1, 0, none⟩ = some (.int .i64 a) := (hb1.cell (p := ⟨w.heap.size + 1, 0, none⟩) (by first | (simp; done) | (simp; omega) | omega)).trans (by first | assumption | (simp [go_sem]; done) | simp [go_sem, *])
  have hb1_1_k1 : w1.cell? ⟨w.heap.size + 1, 1, none⟩ = some (.int .i64 d) := (hb1.cell (p := ⟨w.heap.size + 1, 1, none⟩) (by first | (simp; done) | (simp; omega) | omega)).trans (by first | assumption | (simp [go_sem]; done) | simp [go_sem, *])
  have hb1_1_f : ∀ o, w1.frozen? ⟨w.heap.size + 1, o, none⟩ = false := fun o => (hb1.frozen (p := ⟨w.heap.size + 1, o, none⟩) (by first | (simp; done) | (simp; omega) | omega)).trans (by first | assumption | (simp [go_sem]; done) | simp [go_sem, *])
  have hb1_1_lt : w.heap.size + 1 < w1.heap.size := Nat.lt_of_lt_of_le (m := _) (by first | (simp; done) | (simp; omega) | omega) hb1.size
  go_wp2_with (go_at_call 81; refine (compare_any _ _ _).mono ?_; rintro e w2 ⟨rfl, hw2⟩; subst hw2)
  go_ret2
  exact ⟨rfl, (by repeat (first | with_reducible exact Below.refl _ _ | with_reducible assumption | refine below_drewN ?_ _ | refine Below.drew ?_ | refine Below.alloc ?_ (by first | (simp; done) | (simp; omega) | omega) _ | refine Below.setCell ?_ (by first | (simp; done) | (simp; omega) | omega) _ | refine Below.trans ?_ (Below.mono (by assumption) (by first | (simp; done) | (simp; omega) | omega))))⟩

theorem cmpZ_same (x : Int) : Rt.cmpZ x x = 0 := by unfold Rt.cmpZ; rw [if_neg (by omega), if_neg (by omega)]

theorem cmp_ok (a b c d : Int) (h1 : Rt.vldP a b) (h2 : Rt.vldP c d) (w : World) :
    Calls Tryd.prog 23 #[.agg #[.int .i64 a, .int .i64 b], .agg #[.int .i64 c, .int .i64 d]] w fun e w' => e = .returned (.tuple #[.int .i64 (Rt.cmpZ (a * d) (c * b)), .int .i64 0]) ∧ Below w.heap.size w w' := by
  by_cases e1 : a = c
  · subst e1
    by_cases e2 : b = d
    · subst e2; rw [cmpZ_same]; exact cmp_self a b h1 w
    · exact cmp_two2 a b d h1 h2 (by rw [beq_eq_false_iff_ne]; exact e2) w
  · exact cmp_two1 a b c d h1 h2 (by rw [beq_eq_false_iff_ne]; exact e1) w

set_option maxHeartbeats 400000 in
theorem bef_ok (a b c d : Int) (h1 : Rt.vldP a b) (h2 : Rt.vldP c d) (w : World) :
    Calls Tryd.prog 101 #[.agg #[.int .i64 a, .int .i64 b], .agg #[.int .i64 c, .int .i64 d]] w fun e w' => e = .returned (.bool (decide (Rt.cmpZ (a * d) (c * b) < 0))) ∧ Below w.heap.size w w' := by
  replace h1 := Lib.hid h1
  replace h2 := Lib.hid h2
  go_enter Tryd.func101, Tryd.ntmps101
  go_wp2_with (go_at_call 23; refine (cmp_ok a b c d h1.out h2.out _).mono ?_; rintro e w1 ⟨rfl, hb1⟩)
  have hz1 := hb1.size
  go_ret
  exact ⟨rfl, (by repeat (first | with_reducible exact Below.refl _ _ | with_reducible assumption | refine below_drewN ?_ _ | refine Below.drew ?_ | refine Below.alloc ?_ (by first | (simp; done) | (simp; omega) | omega) _ | refine Below.setCell ?_ (by first | (simp; done) | (simp; omega) | omega) _ | refine Below.trans ?_ (Below.mono (by assumption) (by first | (simp; done) | (simp; omega) | omega))))⟩

set_option maxHeartbeats 400000 in
theorem neg_ok (a b : Int) (h : Rt.vldP a b) (w : World) :
    Calls Tryd.prog 24 #[.agg #[.int .i64 a, .int .i64 b]] w fun e w' => e = .returned (numV ⟨-a, b, 0⟩) ∧ Below w.heap.size w w' := by
  have ⟨x1, x2, x3, x4, _⟩ := h
  replace h := Lib.hid h
  go_enter Tryd.func24, Tryd.ntmps24
  go_wp2_with fail
  refine (valid_yes a b _ h.out).mono ?_
  rintro e w1 ⟨rfl, hb1⟩
  have hz_hb1 := hb1.size
  try simp at hz_hb1
  have hb1_0_k0 : w1.cell? ⟨w.heap.size, 0, none⟩ = some (.int .i64 a) := (hb1.cell (p := ⟨w.heap.size, 0, none⟩) (by first | (simp; done) | (simp; omega) | omega)).trans (by first | assumption | (simp [go_sem]; done) | simp [go_sem, *])
  have hb1_0_k1 : w1.cell? ⟨w.heap.size, 1, none⟩ = some (.int .i64 b) := (hb1.cell (p := ⟨w.heap.size, 1, none⟩) (by first | (simp; done) | (simp; omega) | omega)).trans (by first | assumption | (simp [go_sem]; done) | simp [go_sem, *])
  have hb1_0_f : ∀ o, w1.frozen? ⟨w.heap.size, o, none⟩ = false := fun o => (hb1.frozen (p := ⟨w.heap.size, o, none⟩) (by first | (simp; done) | (simp; omega) | omega)).trans (by first | assumption | (simp [go_sem]; done) | simp [go_sem, *])
  have hb1_0_lt : w.heap.size < w1.heap.size := Nat.lt_of_lt_of_le (m := _) (by first | (simp; done) | (simp; omega) | omega) hb1.size
  have hb1_1_k0 : w1.cell? ⟨w.heap.size + 1, 0, none⟩ = some (.int .i64 0) := (hb1.cell (p := ⟨w.heap.size + 1, 0, none⟩) (by first | (simp; done) | (simp; omega) | omega)).trans (by first | assumption | (simp [go_sem]; done) | simp [go_sem, *])
  have hb1_1_k1 : w1.cell? ⟨w.heap.size + 1, 1, none⟩ = some (.int .i64 0) := (hb1.cell (p := ⟨w.heap.size + 1, 1, none⟩) (by first | (simp; done) | (simp; omega) | omega)).trans (by first | assumption | (simp [go_sem]; done) | simp [go_sem, *])
  have hb1_1_f : ∀ o, w1.frozen? ⟨w.heap.size + 1, o, none⟩ = false := fun o => (hb1.frozen (p := ⟨w.heap.size + 1, o, none⟩) (by first | (simp; done) | (simp; omega) | omega)).trans (by first | assumption | (simp [go_sem]; done) | simp [go_sem, *])
  have hb1_1_lt : w.heap.size + 1 < w1.heap.size := Nat.lt_of_lt_of_le (m := _) (by first | (simp; done) | (simp; omega) | omega) hb1.size
  go_wp2_with fail
  refine (opp_any a b (by omega) (by omega) _).mono ?_
  rintro e w2 ⟨rfl, hb2⟩
  have hz_hb2 := hb2.size
  try simp at hz_hb2
  have hb2_1_k0 : w2.cell? ⟨w.heap.size + 1, 0, none⟩ = some (.int .i64 0) := (hb2.cell (p := ⟨w.heap.size + 1, 0, none⟩) (by first | (simp; done) | (simp; omega) | omega)).trans (by first | assumption | (simp [go_sem]; done) | simp [go_sem, *])
  have hb2_1_k1 : w2.cell? ⟨w.heap.size + 1, 1, none⟩ = some (.int .i64 0) := (hb2.cell (p := ⟨w.heap.size + 1, 1, none⟩) (by first | (simp; done) | (simp; omega) | omega)).trans (by first | assumption | (simp [go_sem]; done) | simp [go_sem, *])
  have hb2_1_f : ∀ o, w2.frozen? ⟨w.heap.size + 1, o, none⟩ = false := fun o => (hb2.frozen (p := ⟨w.heap.size + 1, o, none⟩) (by first | (simp; done) | (simp; omega) | omega)).trans (by first | assumption | (simp [go_sem]; done) | simp [go_sem, *])
  have hb2_1_lt : w.heap.size + 1 < w2.heap.size := Nat.lt_of_lt_of_le (m := _) (by first | (simp; done) | (simp; omega) | omega) hb2.size
  go_wp2
  refine bodyPost_ret (v := .tuple #[.agg #[.int .i64 (-a), .int .i64 b], .int .i64 0]) (by simp [results, Tryd.results24, go_sem, *]) rfl ?_
  exact ⟨rfl, (by repeat (first | with_reducible exact Below.refl _ _ | with_reducible assumption | refine below_drewN ?_ _ | refine Below.drew ?_ | refine Below.alloc ?_ (by first | (simp; done) | (simp; omega) | omega) _ | refine Below.setCell ?_ (by first | (simp; done) | (simp; omega) | omega) _ | refine Below.trans ?_ (Below.mono (by assumption) (by first | (simp; done) | (simp; omega) | omega))))⟩
set_option maxHeartbeats 400000 in
theorem neg_bad (a b : Int) (h : ¬ Rt.vldP a b) (w : World) :
    Calls Tryd.prog 24 #[.agg #[.int .i64 a, .int .i64 b]] w fun e w' => e = .returned (numV ⟨0, 0, 1⟩) ∧ Below w.heap.size w w' := by
  replace h := Lib.hid h
  go_enter Tryd.func24, Tryd.ntmps24
  go_wp2_with fail
  refine (valid_not a b _ h.out).mono ?_
  rintro e w1 ⟨rfl, hb1⟩
  have hz_hb1 := hb1.size
  try simp at hz_hb1
  have hb1_1_k0 : w1.cell? ⟨w.heap.size + 1, 0, none⟩ = some (.int .i64 0) := (hb1.cell (p := ⟨w.heap.size + 1, 0, none⟩) (by first | (simp; done) | (simp; omega) | omega)).trans (by first | assumption | (simp [go_sem]; done) | simp [go_sem, *])
  have hb1_1_k1 : w1.cell? ⟨w.heap.size + 1, 1, none⟩ = some (.int .i64 0) := (hb1.cell (p := ⟨w.heap.size + 1, 1, none⟩) (by first | (simp; done) | (simp; omega) | omega)).trans (by first | assumption | (simp [go_sem]; done) | simp [go_sem, *])
  have hb1_1_f : ∀ o, w1.frozen? ⟨w.heap.size + 1, o, none⟩ = false := fun o => (hb1.frozen (p := ⟨w.heap.size + 1, o, none⟩) (by first | (simp; done) | (simp; omega) | omega)).trans (by first | assumption | (simp [go_sem]; done) | simp [go_sem, *])
  have hb1_1_lt : w.heap.size + 1 < w1.heap.size := Nat.lt_of_lt_of_le (m := _) (by first | (simp; done) | (simp; omega) | omega) hb1.size
  go_wp2
  refine bodyPost_ret (v := .tuple #[.agg #[.int .i64 0, .int .i64 0], .int .i64 1]) (by simp [results, Tryd.results24, go_sem, *]) rfl ?_
  exact ⟨rfl, (by repeat (first | with_reducible exact Below.refl _ _ | with_reducible assumption | refine below_drewN ?_ _ | refine Below.drew ?_ | refine Below.alloc ?_ (by first | (simp; done) | (simp; omega) | omega) _ | refine Below.setCell ?_ (by first | (simp; done) | (simp; omega) | omega) _ | refine Below.trans ?_ (Below.mono (by assumption) (by first | (simp; done) | (simp; omega) | omega))))⟩

end Go.Proofs.YtffabmojbelaaaaDoor
