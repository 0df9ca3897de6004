/- Contracts of the specification of layer 3: Turn. -/
import Derived.Test.YtmkjmpkicmadcaaDoorZJv
import Derived.Test.YtmkjmpkicmadcaaDoorZ07
set_option linter.unusedSimpArgs false
set_option linter.unusedVariables false
namespace Go.Proofs.YtmkjmpkicmadcaaDoor
open Go.RowKit

set_option maxRecDepth 100000 in
set_option maxHeartbeats 2000000 in
theorem rTurn_ok (side t x : Nat) (h1 : 1 ≤ side) (h6 : side ≤ 6) (ht : t < 8) (hx : x < side * side) (w : World) :
    Calls Tryd.prog 9 #[.int .i64 (side : Int), .int .i64 (t : Int), .int .i64 (x : Int)] w fun e w' => e = .returned (.tuple #[.int .i64 (Pl.tk side t x : Nat), .int .i64 0]) ∧ Below w.heap.size w w' := by
  have hs2 : ((side * side : Nat) : Int) = (side : Int) * (side : Int) := Int.natCast_mul _ _
  have hs3 : side * side ≤ 36 := Nat.mul_le_mul h6 h6
  have hs4 : (side : Int) * (side : Int) ≤ 36 := by omega
  have hs5 : (0 : Int) ≤ (side : Int) * (side : Int) := by omega
  have H1 := fun (W : World) => rIn_any (side : Int) 1 6 W
  have e1 : decide ((1 : Int) ≤ (side : Int) ∧ (side : Int) ≤ 6) = true := decide_eq_true (by omega)
  simp only [e1] at H1
  have H2 := fun (W : World) => rIn_any (t : Int) 0 7 W
  have e2 : decide ((0 : Int) ≤ (t : Int) ∧ (t : Int) ≤ 7) = true := decide_eq_true (by omega)
  simp only [e2] at H2
  have H3 := fun (W : World) => rIn_any (x : Int) 0 ((side : Int) * (side : Int) - 1) W
  have e3 : decide ((0 : Int) ≤ (x : Int) ∧ (x : Int) ≤ (side : Int) * (side : Int) - 1) = true := decide_eq_true (by rw [← hs2]; omega)
  simp only [e3] at H3
  have HT := fun (W : World) => pTurned_any side t x h1 h6 ht hx W
  rw [Pl.turned_eq h6 hx ht] at HT
  replace H1 := Lib.hid H1
  replace H2 := Lib.hid H2
  replace H3 := Lib.hid H3
  replace HT := Lib.hid HT
  replace hs2 := Lib.hid hs2
  clear e1 e2 e3
  go_enter Tryd.func9, Tryd.ntmps9
  go_wp2_with fail
  refine (H1.out _).mono ?_
  rintro e w1 ⟨rfl, hw1⟩
  subst hw1
  go_wp2_with fail
  refine (H2.out _).mono ?_
  rintro e w1 ⟨rfl, hw1⟩
  subst hw1
  go_wp2_with fail
  refine (H3.out _).mono ?_
  rintro e w1 ⟨rfl, hw1⟩
  subst hw1
  go_wp2_with fail
  refine (HT.out _).mono ?_
  rintro e w1 ⟨rfl, hw1⟩
  subst hw1
  go_wp2
  go_ret2
  exact ⟨rfl, Below.refl _ _⟩

set_option maxRecDepth 100000 in
set_option maxHeartbeats 2000000 in
theorem rTurn_no (side t x : Int) (h : ¬ (Pl.sd side = true ∧ Pl.ix t 8 = true ∧ Pl.ix x (side * side) = true)) (w : World) :
    Calls Tryd.prog 9 #[.int .i64 side, .int .i64 t, .int .i64 x] w fun e w' => e = .returned (.tuple #[.int .i64 0, .int .i64 1]) ∧ Below w.heap.size w w' := by
  have H1 := fun (W : World) => rIn_any side 1 6 W
  have H2 := fun (W : World) => rIn_any t 0 7 W
  have H3 := fun (W : World) => rIn_any x 0 (side * side - 1) W
  by_cases d1 : (1 : Int) ≤ side ∧ side ≤ 6
  · have hs5 : (0 : Int) ≤ side * side := Int.mul_nonneg (by omega) (by omega)
    have hs4 : side * side ≤ 36 := by
      have : side = 1 ∨ side = 2 ∨ side = 3 ∨ side = 4 ∨ side = 5 ∨ side = 6 := by omega
      rcases this with rfl | rfl | rfl | rfl | rfl | rfl <;> decide
    simp only [decide_eq_true d1] at H1
    replace H1 := Lib.hid H1
    by_cases d2 : (0 : Int) ≤ t ∧ t ≤ 7
    · have d3 : ¬ ((0 : Int) ≤ x ∧ x ≤ side * side - 1) := fun q => h ⟨decide_eq_true d1, decide_eq_true (by omega), decide_eq_true (by omega)⟩
      simp only [decide_eq_true d2] at H2
      simp only [decide_eq_false d3] at H3
      replace H2 := Lib.hid H2
      replace H3 := Lib.hid H3
      clear h d1 d2 d3
      go_enter Tryd.func9, Tryd.ntmps9
      go_wp2_with fail
      refine (H1.out _).mono ?_
      rintro e w1 ⟨rfl, hw1⟩
      subst hw1
      go_wp2_with fail
      refine (H2.out _).mono ?_
      rintro e w1 ⟨rfl, hw1⟩
      subst hw1
      go_wp2_with fail
      refine (H3.out _).mono ?_
      rintro e w1 ⟨rfl, hw1⟩
      subst hw1
      go_wp2
      go_ret2
      exact ⟨rfl, Below.refl _ _⟩
    · simp only [decide_eq_false d2] at H2
      replace H2 := Lib.hid H2
      clear h d1 d2 H3
      go_enter Tryd.func9, Tryd.ntmps9
      go_wp2_with fail
      refine (H1.out _).mono ?_
      rintro e w1 ⟨rfl, hw1⟩
      subst hw1
      go_wp2_with fail
      refine (H2.out _).mono ?_
      rintro e w1 ⟨rfl, hw1⟩
      subst hw1
      go_wp2
      go_ret2
      exact ⟨rfl, Below.refl _ _⟩
  · simp only [decide_eq_false d1] at H1
    replace H1 := Lib.hid H1
    clear h d1 H2 H3
    go_enter Tryd.func9, Tryd.ntmps9
    go_wp2_with fail
    refine (H1.out _).mono ?_
    rintro e w1 ⟨rfl, hw1⟩
    subst hw1
    go_wp2
    go_ret2
    exact ⟨rfl, Below.refl _ _⟩
end Go.Proofs.YtmkjmpkicmadcaaDoor
