/- The plain mathematics of intervals: lesser and greater ends, sums, products, floors. -/
import Derived.Test.YtffabmojbelaaaaDoorRt
namespace Rt

def rmn (P Q : Rat) : Rat := if Q < P then Q else P
def rmx (P Q : Rat) : Rat := if Q < P then P else Q
theorem rmn_fits {P Q : Rat} (h1 : Fits P) (h2 : Fits Q) : Fits (rmn P Q) := by unfold rmn; split <;> assumption
theorem rmx_fits {P Q : Rat} (h1 : Fits P) (h2 : Fits Q) : Fits (rmx P Q) := by unfold rmx; split <;> assumption
theorem le_of_nlt {P Q : Rat} (h : ¬ Q < P) : P ≤ Q := Rat.not_lt.1 h
theorem le_of_lt' {P Q : Rat} (h : P < Q) : P ≤ Q := Rat.le_of_lt h
theorem rmn_le {P Q : Rat} : rmn P Q ≤ P ∧ rmn P Q ≤ Q := by
  unfold rmn; split
  · exact ⟨Rat.le_of_lt (by assumption), Rat.le_refl⟩
  · exact ⟨Rat.le_refl, le_of_nlt (by assumption)⟩
theorem le_rmx {P Q : Rat} : P ≤ rmx P Q ∧ Q ≤ rmx P Q := by
  unfold rmx; split
  · exact ⟨Rat.le_refl, Rat.le_of_lt (by assumption)⟩
  · exact ⟨le_of_nlt (by assumption), Rat.le_refl⟩
theorem rmn_le_rmx {P Q : Rat} : rmn P Q ≤ rmx P Q := Rat.le_trans rmn_le.1 le_rmx.1
theorem le_rmn {P Q Z : Rat} : Z ≤ rmn P Q ↔ Z ≤ P ∧ Z ≤ Q :=
  ⟨fun h => ⟨Rat.le_trans h rmn_le.1, Rat.le_trans h rmn_le.2⟩, fun ⟨h1, h2⟩ => by unfold rmn; split <;> assumption⟩
theorem rmx_le {P Q Z : Rat} : rmx P Q ≤ Z ↔ P ≤ Z ∧ Q ≤ Z :=
  ⟨fun h => ⟨Rat.le_trans le_rmx.1 h, Rat.le_trans le_rmx.2 h⟩, fun ⟨h1, h2⟩ => by unfold rmx; split <;> assumption⟩

/-- whether a number lies in an interval -/
def inR (L H P : Rat) : Bool := decide (L ≤ P ∧ P ≤ H)
theorem inR_iff {L H P : Rat} : inR L H P = true ↔ L ≤ P ∧ P ≤ H := by simp [inR]
theorem inR_not {L H P : Rat} : inR L H P = false ↔ ¬ (L ≤ P ∧ P ≤ H) := by simp [inR]

theorem in_meet {L H L' H' P : Rat} : inR (rmx L L') (rmn H H') P = (inR L H P && inR L' H' P) := by
  rw [Bool.eq_iff_iff, Bool.and_eq_true, inR_iff, inR_iff, inR_iff, rmx_le, le_rmn]
  constructor
  · intro ⟨⟨a, b⟩, c, d⟩; exact ⟨⟨a, c⟩, b, d⟩
  · intro ⟨⟨a, c⟩, b, d⟩; exact ⟨⟨a, b⟩, c, d⟩
theorem not_meet {L H L' H' P : Rat} (h : rmn H H' < rmx L L') : (inR L H P && inR L' H' P) = false := by
  rw [← in_meet, inR_not]
  intro ⟨a, b⟩
  exact Rat.not_lt.2 (Rat.le_trans a b) h
theorem in_hull {L H L' H' P : Rat} (h : (inR L H P || inR L' H' P) = true) : inR (rmn L L') (rmx H H') P = true := by
  rw [Bool.or_eq_true, inR_iff, inR_iff] at h
  rw [inR_iff]
  rcases h with ⟨a, b⟩ | ⟨a, b⟩
  · exact ⟨Rat.le_trans rmn_le.1 a, Rat.le_trans b le_rmx.1⟩
  · exact ⟨Rat.le_trans rmn_le.2 a, Rat.le_trans b le_rmx.2⟩
theorem in_sum {L H L' H' P Q : Rat} (h1 : inR L H P = true) (h2 : inR L' H' Q = true) : inR (rmn (L + L') (H + H')) (rmx (L + L') (H + H')) (P + Q) = true := by
  rw [inR_iff] at *
  have a : L + L' ≤ P + Q := Rat.le_trans (Rat.add_le_add_right.2 h1.1) (Rat.add_le_add_left.2 h2.1)
  have b : P + Q ≤ H + H' := Rat.le_trans (Rat.add_le_add_right.2 h1.2) (Rat.add_le_add_left.2 h2.2)
  exact ⟨Rat.le_trans rmn_le.1 a, Rat.le_trans b le_rmx.2⟩
theorem in_scl {L H P B : Rat} (h1 : inR L H P = true) : inR (rmn (L * B) (H * B)) (rmx (L * B) (H * B)) (P * B) = true := by
  rw [inR_iff] at *
  rcases Rat.le_total (a := 0) (b := B) with h | h
  · exact ⟨Rat.le_trans rmn_le.1 (Rat.mul_le_mul_of_nonneg_right h1.1 h), Rat.le_trans (Rat.mul_le_mul_of_nonneg_right h1.2 h) le_rmx.2⟩
  · have h' : 0 ≤ -B := by have := Rat.neg_le_neg h; simpa using this
    have a := Rat.neg_le_neg (Rat.mul_le_mul_of_nonneg_right h1.1 h')
    have b := Rat.neg_le_neg (Rat.mul_le_mul_of_nonneg_right h1.2 h')
    simp only [Rat.mul_neg, Rat.neg_neg] at a b
    exact ⟨Rat.le_trans rmn_le.2 b, Rat.le_trans a le_rmx.1⟩

/-- floor and ceiling of n·a/b -/
theorem fl_cl {N b : Int} (hb : 0 < b) : cl N b = N / b ∨ cl N b = N / b + 1 := by
  have f := fl_spec (n := N) hb
  have h1 : cl N b ≤ N / b + 1 := (cl_le hb).2 (by rw [Int.add_mul, Int.one_mul, Int.mul_comm]; omega)
  have h2 : N / b ≤ cl N b := by
    rcases Int.lt_or_le (cl N b) (N / b) with h | h
    · have h3 : N ≤ (N / b - 1) * b := (cl_le hb).1 (by omega)
      rw [Int.sub_mul, Int.one_mul, Int.mul_comm] at h3
      omega
    · exact h
  omega
theorem cross_le {r1 r2 N b : Int} (hb : 0 < b) (hr : 0 < r2) (h : r1 * b = N * r2) (k : Int) : (k * r2 ≤ r1 ↔ k * b ≤ N) ∧ (r1 ≤ k * r2 ↔ N ≤ k * b) := by
  have e1 : b * (k * r2) = r2 * (k * b) := by grind
  have e2 : b * r1 = r2 * N := by grind
  constructor
  · rw [← mul_le_cancel hb, ← mul_le_cancel (x := k * b) hr, e1, e2]
  · rw [← mul_le_cancel hb, ← mul_le_cancel (x := N) hr, e1, e2]
theorem fl_cross {r1 r2 N b : Int} (hb : 0 < b) (hr : 0 < r2) (h : r1 * b = N * r2) : r1 / r2 = N / b := by
  have c := cross_le hb hr h
  apply Int.le_antisymm
  · exact (le_fl hb).2 ((c _).1.1 ((le_fl hr).1 (Int.le_refl _)))
  · exact (le_fl hr).2 ((c _).1.2 ((le_fl hb).1 (Int.le_refl _)))
theorem cl_cross {r1 r2 N b : Int} (hb : 0 < b) (hr : 0 < r2) (h : r1 * b = N * r2) : cl r1 r2 = cl N b := by
  have c := cross_le hb hr h
  apply Int.le_antisymm
  · exact (cl_le hr).2 ((c _).2.2 ((cl_le hb).1 (Int.le_refl _)))
  · exact (cl_le hb).2 ((c _).2.1 ((cl_le hr).1 (Int.le_refl _)))
/-- the integers of an interval -/
theorem whole_in {a b c d n : Int} (hb : 0 < b) (hd : 0 < d) : (a ≤ n * b ∧ n * d ≤ c) ↔ (cl a b ≤ n ∧ n ≤ c / d) := by
  rw [cl_le hb, le_fl hd]
theorem fit_n (n : Int) : fit (Rat.divInt n 1) = if n.natAbs ≤ 2147483647 then ⟨n, 1, 0⟩ else ⟨0, 0, 3⟩ := by
  have h2 : (Rat.divInt n 1).num = n := by rw [Rat.num_divInt]; simp
  have h3 : (Rat.divInt n 1).den = 1 := by rw [Rat.den_divInt]; simp
  by_cases h : n.natAbs ≤ 2147483647
  · rw [fit_yes ⟨by rw [h2]; exact h, by rw [h3]; decide⟩, h2, h3, if_pos h]; rfl
  · rw [fit_no (fun x => h (by have := x.1; rwa [h2] at this)), if_neg h]
end Rt
