/- Contracts of ValidRange, Has and Simplest, of package exact and of its specification. -/
import Derived.Test.YtffabmojbelaaaaDoorI
namespace Go.Proofs.YtffabmojbelaaaaDoor
open Go.RowKit

/-- a valid interval from a/b to c/d -/
def vrP (a b c d : Int) : Prop := Rt.vldP a b ∧ Rt.vldP c d ∧ ¬ c * b < a * d

theorem cmpZ_neg {x y : Int} : Rt.cmpZ x y < 0 ↔ x < y := by
  unfold Rt.cmpZ; split
  · simp [*]
  · split <;> omega

set_option maxHeartbeats 400000 in
theorem vrange_yes (a b c d : Int) (w : World) (h : vrP a b c d) :
    Calls Tryd.prog 54 #[.agg #[.int .i64 a, .int .i64 b, .int .i64 c, .int .i64 d]] w fun e w' => e = .returned (.bool true) ∧ Below w.heap.size w w' := by
  obtain ⟨h1, h2, h3⟩ := h
  replace h1 := Lib.hid h1
  replace h2 := Lib.hid h2
  have h4 : decide (Rt.cmpZ (c * b) (a * d) < 0) = false := by rw [decide_eq_false_iff_not, cmpZ_neg]; exact h3
  clear h3
  go_enter Tryd.func54, Tryd.ntmps54
  go_wp2_with fail
  refine (allv_yes a b c d _ h1.out h2.out _ (by first | (simp; done) | (simp; omega) | omega) (by simp [go_sem]) (by simp [go_sem]) (by simp [go_sem]) (by simp [go_sem])).mono ?_
  rintro e w1 ⟨rfl, hb1⟩
  have hz_hb1 := hb1.size
  try simp at hz_hb1
  have hb1_0_k0 : w1.cell? ⟨w.heap.size, 0, none⟩ = some (.int .i64 a) := (hb1.cell (p := ⟨w.heap.size, 0, none⟩) (by first | (simp; done) | (simp; omega) | omega)).trans (by first | assumption | (simp [go_sem]; done) | simp [go_sem, *])
  have hb1_0_k1 : w1.cell? ⟨w.heap.size, 1, none⟩ = some (.int .i64 b) := (hb1.cell (p := ⟨w.heap.size, 1, none⟩) (by first | (simp; done) | (simp; omega) | omega)).trans (by first | assumption | (simp [go_sem]; done) | simp [go_sem, *])
  have hb1_0_k2 : w1.cell? ⟨w.heap.size, 2, none⟩ = some (.int .i64 c) := (hb1.cell (p := ⟨w.heap.size, 2, none⟩) (by first | (simp; done) | (simp; omega) | omega)).trans (by first | assumption | (simp [go_sem]; done) | simp [go_sem, *])
  have hb1_0_k3 : w1.cell? ⟨w.heap.size, 3, none⟩ = some (.int .i64 d) := (hb1.cell (p := ⟨w.heap.size, 3, none⟩) (by first | (simp; done) | (simp; omega) | omega)).trans (by first | assumption | (simp [go_sem]; done) | simp [go_sem, *])
  have hb1_0_f : ∀ o, w1.frozen? ⟨w.heap.size, o, none⟩ = false := fun o => (hb1.frozen (p := ⟨w.heap.size, o, none⟩) (by first | (simp; done) | (simp; omega) | omega)).trans (by first | assumption | (simp [go_sem]; done) | simp [go_sem, *])
  have hb1_0_lt : w.heap.size < w1.heap.size := Nat.lt_of_lt_of_le (m := _) (by first | (simp; done) | (simp; omega) | omega) hb1.size
  go_wp2_with fail
  refine (bef_ok c d a b h2.out h1.out _).mono ?_
  rintro e w2 ⟨he, hb2⟩
  rw [h4] at he
  subst he
  have hz2 := hb2.size
  go_wp2
  go_ret
  exact ⟨rfl, (by repeat (first | with_reducible exact Below.refl _ _ | with_reducible assumption | refine below_drewN ?_ _ | refine Below.drew ?_ | refine Below.alloc ?_ (by first | (simp; done) | (simp; omega) | omega) _ | refine Below.setCell ?_ (by first | (simp; done) | (simp; omega) | omega) _ | refine Below.trans ?_ (Below.mono (by assumption) (by first | (simp; done) | (simp; omega) | omega))))⟩

set_option maxHeartbeats 400000 in
theorem vrange_bad (a b c d : Int) (w : World) (h : ¬ (Rt.vldP a b ∧ Rt.vldP c d)) :
    Calls Tryd.prog 54 #[.agg #[.int .i64 a, .int .i64 b, .int .i64 c, .int .i64 d]] w fun e w' => e = .returned (.bool false) ∧ Below w.heap.size w w' := by
  replace h := Lib.hid h
  go_enter Tryd.func54, Tryd.ntmps54
  go_wp2_with fail
  refine (allv_not a b c d _ h.out _ (by first | (simp; done) | (simp; omega) | omega) (by simp [go_sem]) (by simp [go_sem]) (by simp [go_sem]) (by simp [go_sem])).mono ?_
  rintro e w1 ⟨rfl, hb1⟩
  have hz2 := hb1.size
  go_wp2
  go_ret
  exact ⟨rfl, (by repeat (first | with_reducible exact Below.refl _ _ | with_reducible assumption | refine below_drewN ?_ _ | refine Below.drew ?_ | refine Below.alloc ?_ (by first | (simp; done) | (simp; omega) | omega) _ | refine Below.setCell ?_ (by first | (simp; done) | (simp; omega) | omega) _ | refine Below.trans ?_ (Below.mono (by assumption) (by first | (simp; done) | (simp; omega) | omega))))⟩

set_option maxHeartbeats 400000 in
theorem vrange_less (a b c d : Int) (w : World) (h1 : Rt.vldP a b) (h2 : Rt.vldP c d) (h3 : c * b < a * d) :
    Calls Tryd.prog 54 #[.agg #[.int .i64 a, .int .i64 b, .int .i64 c, .int .i64 d]] w fun e w' => e = .returned (.bool false) ∧ Below w.heap.size w w' := by
  replace h1 := Lib.hid h1
  replace h2 := Lib.hid h2
  have h4 : decide (Rt.cmpZ (c * b) (a * d) < 0) = true := by rw [decide_eq_true_iff, cmpZ_neg]; exact h3
  clear h3
  go_enter Tryd.func54, Tryd.ntmps54
  go_wp2_with fail
  refine (allv_yes a b c d _ h1.out h2.out _ (by first | (simp; done) | (simp; omega) | omega) (by simp [go_sem]) (by simp [go_sem]) (by simp [go_sem]) (by simp [go_sem])).mono ?_
  rintro e w1 ⟨rfl, hb1⟩
  have hz_hb1 := hb1.size
  try simp at hz_hb1
  have hb1_0_k0 : w1.cell? ⟨w.heap.size, 0, none⟩ = some (.int .i64 a) := (hb1.cell (p := ⟨w.heap.size, 0, none⟩) (by first | (simp; done) | (simp; omega) | omega)).trans (by first | assumption | (simp [go_sem]; done) | simp [go_sem, *])
  have hb1_0_k1 : w1.cell? ⟨w.heap.size, 1, none⟩ = some (.int .i64 b) := (hb1.cell (p := ⟨w.heap.size, 1, none⟩) (by first | (simp; done) | (simp; omega) | omega)).trans (by first | assumption | (simp [go_sem]; done) | simp [go_sem, *])
  have hb1_0_k2 : w1.cell? ⟨w.heap.size, 2, none⟩ = some (.int .i64 c) := (hb1.cell (p := ⟨w.heap.size, 2, none⟩) (by first | (simp; done) | (simp; omega) | omega)).trans (by first | assumption | (simp [go_sem]; done) | simp [go_sem, *])
  have hb1_0_k3 : w1.cell? ⟨w.heap.size, 3, none⟩ = some (.int .i64 d) := (hb1.cell (p := ⟨w.heap.size, 3, none⟩) (by first | (simp; done) | (simp; omega) | omega)).trans (by first | assumption | (simp [go_sem]; done) | simp [go_sem, *])
  have hb1_0_f : ∀ o, w1.frozen? ⟨w.heap.size, o, none⟩ = false := fun o => (hb1.frozen (p := ⟨w.heap.size, o, none⟩) (by first | (simp; done) | (simp; omega) | omega)).trans (by first | assumption | (simp [go_sem]; done) | simp [go_sem, *])
  have hb1_0_lt : w.heap.size < w1.heap.size := Nat.lt_of_lt_of_le (m := _) (by first | (simp; done) | (simp; omega) | omega) hb1.size
  go_wp2_with fail
  refine (bef_ok c d a b h2.out h1.out _).mono ?_
  rintro e w2 ⟨he, hb2⟩
  rw [h4] at he
  subst he
  have hz2 := hb2.size
  go_wp2
  go_ret
  exact ⟨rfl, (by repeat (first | with_reducible exact Below.refl _ _ | with_reducible assumption | refine below_drewN ?_ _ | refine Below.drew ?_ | refine Below.alloc ?_ (by first | (simp; done) | (simp; omega) | omega) _ | refine Below.setCell ?_ (by first | (simp; done) | (simp; omega) | omega) _ | refine Below.trans ?_ (Below.mono (by assumption) (by first | (simp; done) | (simp; omega) | omega))))⟩

theorem vrange_not (a b c d : Int) (w : World) (h : ¬ vrP a b c d) :
    Calls Tryd.prog 54 #[.agg #[.int .i64 a, .int .i64 b, .int .i64 c, .int .i64 d]] w fun e w' => e = .returned (.bool false) ∧ Below w.heap.size w w' := by
  by_cases hv : Rt.vldP a b ∧ Rt.vldP c d
  · by_cases hl : c * b < a * d
    · exact vrange_less a b c d w hv.1 hv.2 hl
    · exact (h ⟨hv.1, hv.2, hl⟩).elim
  · exact vrange_bad a b c d w hv

set_option maxHeartbeats 400000 in
theorem rvrange_yes (a b c d : Int) (w : World) (h : vrP a b c d) :
    Calls Tryd.prog 50 #[.agg #[.int .i64 a, .int .i64 b, .int .i64 c, .int .i64 d]] w fun e w' => e = .returned (.bool true) ∧ Below w.heap.size w w' := by
  obtain ⟨h1, h2, h3⟩ := h
  have ⟨x1, x2, x3, x4, _⟩ := h1
  have ⟨y1, y2, y3, y4, _⟩ := h2
  replace h1 := Lib.hid h1
  replace h2 := Lib.hid h2
  have h4 : decide (c * b < a * d) = false := by rw [decide_eq_false_iff_not]; exact h3
  clear h3
  go_enter Tryd.func50, Tryd.ntmps50
  go_wp2_with fail
  refine (rvalid_yes a b _ h1.out).mono ?_
  rintro e w1 ⟨rfl, hb1⟩
  have hz_hb1 := hb1.size
  try simp at hz_hb1
  have hb1_0_k0 : w1.cell? ⟨w.heap.size, 0, none⟩ = some (.int .i64 a) := (hb1.cell (p := ⟨w.heap.size, 0, none⟩) (by first | (simp; done) | (simp; omega) | omega)).trans (by first | assumption | (simp [go_sem]; done) | simp [go_sem, *])
  have hb1_0_k1 : w1.cell? ⟨w.heap.size, 1, none⟩ = some (.int .i64 b) := (hb1.cell (p := ⟨w.heap.size, 1, none⟩) (by first | (simp; done) | (simp; omega) | omega)).trans (by first | assumption | (simp [go_sem]; done) | simp [go_sem, *])
  have hb1_0_k2 : w1.cell? ⟨w.heap.size, 2, none⟩ = some (.int .i64 c) := (hb1.cell (p := ⟨w.heap.size, 2, none⟩) (by first | (simp; done) | (simp; omega) | omega)).trans (by first | assumption | (simp [go_sem]; done) | simp [go_sem, *])
  have hb1_0_k3 : w1.cell? ⟨w.heap.size, 3, none⟩ = some (.int .i64 d) := (hb1.cell (p := ⟨w.heap.size, 3, none⟩) (by first | (simp; done) | (simp; omega) | omega)).trans (by first | assumption | (simp [go_sem]; done) | simp [go_sem, *])
  have hb1_0_f : ∀ o, w1.frozen? ⟨w.heap.size, o, none⟩ = false := fun o => (hb1.frozen (p := ⟨w.heap.size, o, none⟩) (by first | (simp; done) | (simp; omega) | omega)).trans (by first | assumption | (simp [go_sem]; done) | simp [go_sem, *])
  have hb1_0_lt : w.heap.size < w1.heap.size := Nat.lt_of_lt_of_le (m := _) (by first | (simp; done) | (simp; omega) | omega) hb1.size
  go_wp2_with fail
  refine (rvalid_yes c d _ h2.out).mono ?_
  rintro e w2 ⟨rfl, hb2⟩
  have hz_hb2 := hb2.size
  try simp at hz_hb2
  have hb2_0_k0 : w2.cell? ⟨w.heap.size, 0, none⟩ = some (.int .i64 a) := (hb2.cell (p := ⟨w.heap.size, 0, none⟩) (by first | (simp; done) | (simp; omega) | omega)).trans (by first | assumption | (simp [go_sem]; done) | simp [go_sem, *])
  have hb2_0_k1 : w2.cell? ⟨w.heap.size, 1, none⟩ = some (.int .i64 b) := (hb2.cell (p := ⟨w.heap.size, 1, none⟩) (by first | (simp; done) | (simp; omega) | omega)).trans (by first | assumption | (simp [go_sem]; done) | simp [go_sem, *])
  have hb2_0_k2 : w2.cell? ⟨w.heap.size, 2, none⟩ = some (.int .i64 c) := (hb2.cell (p := ⟨w.heap.size, 2, none⟩) (by first | (simp; done) | (simp; omega) | omega)).trans (by first | assumption | (simp [go_sem]; done) | simp [go_sem, *])
  have hb2_0_k3 : w2.cell? ⟨w.heap.size, 3, none⟩ = some (.int .i64 d) := (hb2.cell (p := ⟨w.heap.size, 3, none⟩) (by first | (simp; done) | (simp; omega) | omega)).trans (by first | assumption | (simp [go_sem]; done) | simp [go_sem, *])
  have hb2_0_f : ∀ o, w2.frozen? ⟨w.heap.size, o, none⟩ = false := fun o => (hb2.frozen (p := ⟨w.heap.size, o, none⟩) (by first | (simp; done) | (simp; omega) | omega)).trans (by first | assumption | (simp [go_sem]; done) | simp [go_sem, *])
  have hb2_0_lt : w.heap.size < w2.heap.size := Nat.lt_of_lt_of_le (m := _) (by first | (simp; done) | (simp; omega) | omega) hb2.size
  go_wp2_with fail
  refine (less_any c d a b ⟨y3, y4⟩ ⟨y1, y2⟩ ⟨x3, x4⟩ ⟨x1, x2⟩ _).mono ?_
  rintro e w3 ⟨he, hb3⟩
  rw [h4] at he
  subst he
  have hz2 := hb3.size
  go_wp2
  go_ret
  exact ⟨rfl, (by repeat (first | with_reducible exact Below.refl _ _ | with_reducible assumption | refine below_drewN ?_ _ | refine Below.drew ?_ | refine Below.alloc ?_ (by first | (simp; done) | (simp; omega) | omega) _ | refine Below.setCell ?_ (by first | (simp; done) | (simp; omega) | omega) _ | refine Below.trans ?_ (Below.mono (by assumption) (by first | (simp; done) | (simp; omega) | omega))))⟩

set_option maxHeartbeats 400000 in
theorem rvrange_less (a b c d : Int) (w : World) (h1 : Rt.vldP a b) (h2 : Rt.vldP c d) (h3 : c * b < a * d) :
    Calls Tryd.prog 50 #[.agg #[.int .i64 a, .int .i64 b, .int .i64 c, .int .i64 d]] w fun e w' => e = .returned (.bool false) ∧ Below w.heap.size w w' := by
  have ⟨x1, x2, x3, x4, _⟩ := h1
  have ⟨y1, y2, y3, y4, _⟩ := h2
  replace h1 := Lib.hid h1
  replace h2 := Lib.hid h2
  have h4 : decide (c * b < a * d) = true := by rw [decide_eq_true_iff]; exact h3
  clear h3
  go_enter Tryd.func50, Tryd.ntmps50
  go_wp2_with fail
  refine (rvalid_yes a b _ h1.out).mono ?_
  rintro e w1 ⟨rfl, hb1⟩
  have hz_hb1 := hb1.size
  try simp at hz_hb1
  have hb1_0_k0 : w1.cell? ⟨w.heap.size, 0, none⟩ = some (.int .i64 a) := (hb1.cell (p := ⟨w.heap.size, 0, none⟩) (by first | (simp; done) | (simp; omega) | omega)).trans (by first | assumption | (simp [go_sem]; done) | simp [go_sem, *])
  have hb1_0_k1 : w1.cell? ⟨w.heap.size, 1, none⟩ = some (.int .i64 b) := (hb1.cell (p := ⟨w.heap.size, 1, none⟩) (by first | (simp; done) | (simp; omega) | omega)).trans (by first | assumption | (simp [go_sem]; done) | simp [go_sem, *])
  have hb1_0_k2 : w1.cell? ⟨w.heap.size, 2, none⟩ = some (.int .i64 c) := (hb1.cell (p := ⟨w.heap.size, 2, none⟩) (by first | (simp; done) | (simp; omega) | omega)).trans (by first | assumption | (simp [go_sem]; done) | simp [go_sem, *])
  have hb1_0_k3 : w1.cell? ⟨w.heap.size, 3, none⟩ = some (.int .i64 d) := (hb1.cell (p := ⟨w.heap.size, 3, none⟩) (by first | (simp; done) | (simp; omega) | omega)).trans (by first | assumption | (simp [go_sem]; done) | simp [go_sem, *])
  have hb1_0_f : ∀ o, w1.frozen? ⟨w.heap.size, o, none⟩ = false := fun o => (hb1.frozen (p := ⟨w.heap.size, o, none⟩) (by first | (simp; done) | (simp; omega) | omega)).trans (by first | assumption | (simp [go_sem]; done) | simp [go_sem, *])
  have hb1_0_lt : w.heap.size < w1.heap.size := Nat.lt_of_lt_of_le (m := _) (by first | (simp; done) | (simp; omega) | omega) hb1.size
  go_wp2_with fail
  refine (rvalid_yes c d _ h2.out).mono ?_
  rintro e w2 ⟨rfl, hb2⟩
  have hz_hb2 := hb2.size
  try simp at hz_hb2
  have hb2_0_k0 : w2.cell? ⟨w.heap.size, 0, none⟩ = some (.int .i64 a) := (hb2.cell (p := ⟨w.heap.size, 0, none⟩) (by first | (simp; done) | (simp; omega) | omega)).trans (by first | assumption | (simp [go_sem]; done) | simp [go_sem, *])
  have hb2_0_k1 : w2.cell? ⟨w.heap.size, 1, none⟩ = some (.int .i64 b) := (hb2.cell (p := ⟨w.heap.size, 1, none⟩) (by first | (simp; done) | (simp; omega) | omega)).trans (by first | assumption | (simp [go_sem]; done) | simp [go_sem, *])
  have hb2_0_k2 : w2.cell? ⟨w.heap.size, 2, none⟩ = some (.int .i64 c) := (hb2.cell (p := ⟨w.heap.size, 2, none⟩) (by first | (simp; done) | (simp; omega) | omega)).trans (by first | assumption | (simp [go_sem]; done) | simp [go_sem, *])
  have hb2_0_k3 : w2.cell? ⟨w.heap.size, 3, none⟩ = some (.int .i64 d) := (hb2.cell (p := ⟨w.heap.size, 3, none⟩) (by first | (simp; done) | (simp; omega) | omega)).trans (by first | assumption | (simp [go_sem]; done) | simp [go_sem, *])
  have hb2_0_f : ∀ o, w2.frozen? ⟨w.heap.size, o, none⟩ = false := fun o => (hb2.frozen (p := ⟨w.heap.size, o, none⟩) (by first | (simp; done) | (simp; omega) | omega)).trans (by first | assumption | (simp [go_sem]; done) | simp [go_sem, *])
  have hb2_0_lt : w.heap.size < w2.heap.size := Nat.lt_of_lt_of_le (m := _) (by first | (simp; done) | (simp; omega) | omega) hb2.size
  go_wp2_with fail
  refine (less_any c d a b ⟨y3, y4⟩ ⟨y1, y2⟩ ⟨x3, x4⟩ ⟨x1, x2⟩ _).mono ?_
  rintro e w3 ⟨he, hb3⟩
  rw [h4] at he
  subst he
  have hz2 := hb3.size
  go_wp2
  go_ret
  exact ⟨rfl, (by repeat (first | with_reducible exact Below.refl _ _ | with_reducible assumption | refine below_drewN ?_ _ | refine Below.drew ?_ | refine Below.alloc ?_ (by first | (simp; done) | (simp; omega) | omega) _ | refine Below.setCell ?_ (by first | (simp; done) | (simp; omega) | omega) _ | refine Below.trans ?_ (Below.mono (by assumption) (by first | (simp; done) | (simp; omega) | omega))))⟩

set_option maxHeartbeats 400000 in
theorem rvrange_bad (a b c d : Int) (w : World) (h : ¬ (Rt.vldP a b ∧ Rt.vldP c d)) :
    Calls Tryd.prog 50 #[.agg #[.int .i64 a, .int .i64 b, .int .i64 c, .int .i64 d]] w fun e w' => e = .returned (.bool false) ∧ Below w.heap.size w w' := by
  by_cases h1 : Rt.vldP a b
  · have h2 : Hid (¬ Rt.vldP c d) := Lib.hid fun h2 => h ⟨h1, h2⟩
    replace h1 := Lib.hid h1
    clear h
    go_enter Tryd.func50, Tryd.ntmps50
    go_wp2_with fail
    refine (rvalid_yes a b _ h1.out).mono ?_
    rintro e w1 ⟨rfl, hb1⟩
    have hz_hb1 := hb1.size
    try simp at hz_hb1
    have hb1_0_k0 : w1.cell? ⟨w.heap.size, 0, none⟩ = some (.int .i64 a) := (hb1.cell (p := ⟨w.heap.size, 0, none⟩) (by first | (simp; done) | (simp; omega) | omega)).trans (by first | assumption | (simp [go_sem]; done) | simp [go_sem, *])
    have hb1_0_k1 : w1.cell? ⟨w.heap.size, 1, none⟩ = some (.int .i64 b) := (hb1.cell (p := ⟨w.heap.size, 1, none⟩) (by first | (simp; done) | (simp; omega) | omega)).trans (by first | assumption | (simp [go_sem]; done) | simp [go_sem, *])
    have hb1_0_k2 : w1.cell? ⟨w.heap.size, 2, none⟩ = some (.int .i64 c) := (hb1.cell (p := ⟨w.heap.size, 2, none⟩) (by first | (simp; done) | (simp; omega) | omega)).trans (by first | assumption | (simp [go_sem]; done) | simp [go_sem, *])
    have hb1_0_k3 : w1.cell? ⟨w.heap.size, 3, none⟩ = some (.int .i64 d) := (hb1.cell (p := ⟨w.heap.size, 3, none⟩) (by first | (simp; done) | (simp; omega) | omega)).trans (by first | assumption | (simp [go_sem]; done) | simp [go_sem, *])
    have hb1_0_f : ∀ o, w1.frozen? ⟨w.heap.size, o, none⟩ = false := fun o => (hb1.frozen (p := ⟨w.heap.size, o, none⟩) (by first | (simp; done) | (simp; omega) | omega)).trans (by first | assumption | (simp [go_sem]; done) | simp [go_sem, *])
    have hb1_0_lt : w.heap.size < w1.heap.size := Nat.lt_of_lt_of_le (m := _) (by first | (simp; done) | (simp; omega) | omega) hb1.size
    go_wp2_with fail
    refine (rvalid_not c d _ h2.out).mono ?_
    rintro e w2 ⟨rfl, hb2⟩
    have hz2 := hb2.size
    go_wp2
    go_ret
    exact ⟨rfl, (by repeat (first | with_reducible exact Below.refl _ _ | with_reducible assumption | refine below_drewN ?_ _ | refine Below.drew ?_ | refine Below.alloc ?_ (by first | (simp; done) | (simp; omega) | omega) _ | refine Below.setCell ?_ (by first | (simp; done) | (simp; omega) | omega) _ | refine Below.trans ?_ (Below.mono (by assumption) (by first | (simp; done) | (simp; omega) | omega))))⟩
  · replace h1 := Lib.hid h1
    clear h
    by_cases h2 : Rt.vldP c d
    · replace h2 := Lib.hid h2
      go_enter Tryd.func50, Tryd.ntmps50
      go_wp2_with fail
      refine (rvalid_not a b _ h1.out).mono ?_
      rintro e w1 ⟨rfl, hb1⟩
      have hz_hb1 := hb1.size
      try simp at hz_hb1
      have hb1_0_k0 : w1.cell? ⟨w.heap.size, 0, none⟩ = some (.int .i64 a) := (hb1.cell (p := ⟨w.heap.size, 0, none⟩) (by first | (simp; done) | (simp; omega) | omega)).trans (by first | assumption | (simp [go_sem]; done) | simp [go_sem, *])
      have hb1_0_k1 : w1.cell? ⟨w.heap.size, 1, none⟩ = some (.int .i64 b) := (hb1.cell (p := ⟨w.heap.size, 1, none⟩) (by first | (simp; done) | (simp; omega) | omega)).trans (by first | assumption | (simp [go_sem]; done) | simp [go_sem, *])
      have hb1_0_k2 : w1.cell? ⟨w.heap.size, 2, none⟩ = some (.int .i64 c) := (hb1.cell (p := ⟨w.heap.size, 2, none⟩) (by first | (simp; done) | (simp; omega) | omega)).trans (by first | assumption | (simp [go_sem]; done) | simp [go_sem, *])
      have hb1_0_k3 : w1.cell? ⟨w.heap.size, 3, none⟩ = some (.int .i64 d) := (hb1.cell (p := ⟨w.heap.size, 3, none⟩) (by first | (simp; done) | (simp; omega) | omega)).trans (by first | assumption | (simp [go_sem]; done) | simp [go_sem, *])
      have hb1_0_f : ∀ o, w1.frozen? ⟨w.heap.size, o, none⟩ = false := fun o => (hb1.frozen (p := ⟨w.heap.size, o, none⟩) (by first | (simp; done) | (simp; omega) | omega)).trans (by first | assumption | (simp [go_sem]; done) | simp [go_sem, *])
      have hb1_0_lt : w.heap.size < w1.heap.size := Nat.lt_of_lt_of_le (m := _) (by first | (simp; done) | (simp; omega) | omega) hb1.size
      go_wp2_with fail
      refine (rvalid_yes c d _ h2.out).mono ?_
      rintro e w2 ⟨rfl, hb2⟩
      have hz2 := hb2.size
      go_wp2
      go_ret
      exact ⟨rfl, (by repeat (first | with_reducible exact Below.refl _ _ | with_reducible assumption | refine below_drewN ?_ _ | refine Below.drew ?_ | refine Below.alloc ?_ (by first | (simp; done) | (simp; omega) | omega) _ | refine Below.setCell ?_ (by first | (simp; done) | (simp; omega) | omega) _ | refine Below.trans ?_ (Below.mono (by assumption) (by first | (simp; done) | (simp; omega) | omega))))⟩
    · replace h2 := Lib.hid h2
      go_enter Tryd.func50, Tryd.ntmps50
      go_wp2_with fail
      refine (rvalid_not a b _ h1.out).mono ?_
      rintro e w1 ⟨rfl, hb1⟩
      have hz_hb1 := hb1.size
      try simp at hz_hb1
      have hb1_0_k0 : w1.cell? ⟨w.heap.size, 0, none⟩ = some (.int .i64 a) := (hb1.cell (p := ⟨w.heap.size, 0, none⟩) (by first | (simp; done) | (simp; omega) | omega)).trans (by first | assumption | (simp [go_sem]; done) | simp [go_sem, *])
      have hb1_0_k1 : w1.cell? ⟨w.heap.size, 1, none⟩ = some (.int .i64 b) := (hb1.cell (p := ⟨w.heap.size, 1, none⟩) (by first | (simp; done) | (simp; omega) | omega)).trans (by first | assumption | (simp [go_sem]; done) | simp [go_sem, *])
      have hb1_0_k2 : w1.cell? ⟨w.heap.size, 2, none⟩ = some (.int .i64 c) := (hb1.cell (p := ⟨w.heap.size, 2, none⟩) (by first | (simp; done) | (simp; omega) | omega)).trans (by first | assumption | (simp [go_sem]; done) | simp [go_sem, *])
      have hb1_0_k3 : w1.cell? ⟨w.heap.size, 3, none⟩ = some (.int .i64 d) := (hb1.cell (p := ⟨w.heap.size, 3, none⟩) (by first | (simp; done) | (simp; omega) | omega)).trans (by first | assumption | (simp [go_sem]; done) | simp [go_sem, *])
      have hb1_0_f : ∀ o, w1.frozen? ⟨w.heap.size, o, none⟩ = false := fun o => (hb1.frozen (p := ⟨w.heap.size, o, none⟩) (by first | (simp; done) | (simp; omega) | omega)).trans (by first | assumption | (simp [go_sem]; done) | simp [go_sem, *])
      have hb1_0_lt : w.heap.size < w1.heap.size := Nat.lt_of_lt_of_le (m := _) (by first | (simp; done) | (simp; omega) | omega) hb1.size
      go_wp2_with fail
      refine (rvalid_not c d _ h2.out).mono ?_
      rintro e w2 ⟨rfl, hb2⟩
      have hz2 := hb2.size
      go_wp2
      go_ret
      exact ⟨rfl, (by repeat (first | with_reducible exact Below.refl _ _ | with_reducible assumption | refine below_drewN ?_ _ | refine Below.drew ?_ | refine Below.alloc ?_ (by first | (simp; done) | (simp; omega) | omega) _ | refine Below.setCell ?_ (by first | (simp; done) | (simp; omega) | omega) _ | refine Below.trans ?_ (Below.mono (by assumption) (by first | (simp; done) | (simp; omega) | omega))))⟩

theorem rvrange_not (a b c d : Int) (w : World) (h : ¬ vrP a b c d) :
    Calls Tryd.prog 50 #[.agg #[.int .i64 a, .int .i64 b, .int .i64 c, .int .i64 d]] w fun e w' => e = .returned (.bool false) ∧ Below w.heap.size w w' := by
  by_cases hv : Rt.vldP a b ∧ Rt.vldP c d
  · by_cases hl : c * b < a * d
    · exact rvrange_less a b c d w hv.1 hv.2 hl
    · exact (h ⟨hv.1, hv.2, hl⟩).elim
  · exact rvrange_bad a b c d w hv
end Go.Proofs.YtffabmojbelaaaaDoor
