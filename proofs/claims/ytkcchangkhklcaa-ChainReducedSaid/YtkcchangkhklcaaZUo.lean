/- Package chain, mirrored: the links that Reduce leaves, as the law gathers them. -/
import Derived.Test.YtkcchangkhklcaaZUn
import Derived.Test.YtkcchangkhklcaaZWo
set_option linter.unusedSimpArgs false
set_option linter.unusedVariables false
namespace Ch

theorem mem_ints {l : List Nat} {i : Nat} : (i : Int) ∈ ints l ↔ i ∈ l := by
  unfold ints
  rw [List.mem_map]
  constructor
  · rintro ⟨j, hj, e⟩
    have : j = i := by omega
    rw [← this]; exact hj
  · intro h; exact ⟨i, h, rfl⟩
/-- of the first j indices those that are not in a list -/
def goneK (I : List Nat) (j : Nat) : List Nat := (List.range j).filter fun i => !decide ((i : Int) ∈ ints I)
theorem goneK_hit {I : List Nat} {j : Nat} (h : decide ((j : Int) ∈ ints I) = false) : goneK I (j + 1) = goneK I j ++ [j] := by
  unfold goneK
  rw [List.range_succ, List.filter_append, List.filter_cons, h]
  simp
theorem goneK_miss {I : List Nat} {j : Nat} (h : decide ((j : Int) ∈ ints I) = true) : goneK I (j + 1) = goneK I j := by
  unfold goneK
  rw [List.range_succ, List.filter_append, List.filter_cons, h]
  simp
theorem goneK_len (I : List Nat) (j : Nat) : (goneK I j).length ≤ j := by
  unfold goneK
  have := List.length_filter_le (fun i : Nat => !decide ((i : Int) ∈ ints I)) (List.range j)
  simpa using this
theorem wo_gone' {L : List Lk} {D : List Bool} {I : List Nat} (hI : ∀ i, i ∈ I ↔ i < L.length ∧ D.getD i false = false) : wo L (ints (goneK I L.length)) L.length = kept L D := by
  unfold wo kept leftK
  congr 1
  refine List.filter_congr fun i hi => ?_
  have hi := List.mem_range.1 hi
  have e : ((i : Int) ∈ ints (goneK I L.length)) ↔ D.getD i false = true := by
    rw [mem_ints]
    unfold goneK
    rw [List.mem_filter, List.mem_range]
    simp only [mem_ints, hI, Bool.not_eq_true', decide_eq_false_iff_not]
    constructor
    · rintro ⟨_, h⟩
      cases h2 : D.getD i false
      · exact absurd ⟨hi, h2⟩ h
      · rfl
    · intro h
      exact ⟨hi, fun h2 => by rw [h] at h2; cases h2.2⟩
  cases h : D.getD i false
  · rw [decide_eq_false (fun h2 => by have := e.1 h2; rw [h] at this; cases this)]
  · rw [decide_eq_true (e.2 h)]
theorem wo_gone {L : List Lk} {D : List Bool} : wo L (ints (goneK (leftK D L.length) L.length)) L.length = kept L D := wo_gone' fun _ => leftK_mem
/-- what Reduce gives, and what the system without the others has -/
theorem EA.reduce {n : Int} {L : List Lk} {k : Nat} (ho : opn n L [] k = 0) : reduce n L k = (leftK (rd n.toNat L k L.length) L.length, 0) := by
  unfold Ch.reduce
  rw [if_neg (by omega)]
theorem EA.rd_enough {n : Int} {L : List Lk} {k : Nat} (h : EA n L k) : opn n L [] k = 0 → ∀ c, c < L.length → enough n.toNat L ((rd n.toNat L k c).set (L.length - 1 - c) true) k = true ∧ cons n.toNat L ((rd n.toNat L k c).set (L.length - 1 - c) true) k = true := fun ho _ _ => h.all ho _
theorem EA.idle_enough {n : Int} {L : List Lk} {k : Nat} (h : EA n L k) : opn n L [] k = 0 → ∀ q, q < L.length → enough n.toNat L ((none' L.length).set q true) k = true ∧ cons n.toNat L ((none' L.length).set q true) k = true := fun ho _ _ => h.all ho _
end Ch
