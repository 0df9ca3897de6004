/- Package chain, mirrored: Greatest and Least as the table's first row and column. -/
import Derived.Test.YtkcchangkhklcaaZUm
set_option linter.unusedSimpArgs false
set_option linter.unusedVariables false
namespace Ch

def upK (D : Nat → Nat → Int) (j : Nat) : List Int := (List.range j).map fun v => D 0 v
def dnK (D : Nat → Nat → Int) (j : Nat) : List Int := (List.range j).map fun v => -(D v 0)
def hiK (D : Nat → Nat → Int) (j : Nat) : Int := if (List.range j).any (fun v => D 0 v == 1152921504606846976) then 5 else 0
def loK (D : Nat → Nat → Int) (j : Nat) : Int := if (List.range j).any (fun v => D v 0 == 1152921504606846976) then 5 else 0
theorem upK_next (D : Nat → Nat → Int) (j : Nat) : upK D (j + 1) = upK D j ++ [D 0 j] := by unfold upK; rw [List.range_succ, List.map_append]; rfl
theorem dnK_next (D : Nat → Nat → Int) (j : Nat) : dnK D (j + 1) = dnK D j ++ [-(D j 0)] := by unfold dnK; rw [List.range_succ, List.map_append]; rfl
theorem upK_len (D : Nat → Nat → Int) (j : Nat) : (upK D j).length = j := by simp [upK]
theorem dnK_len (D : Nat → Nat → Int) (j : Nat) : (dnK D j).length = j := by simp [dnK]
theorem hiK_next (D : Nat → Nat → Int) (j : Nat) : hiK D (j + 1) = if D 0 j = 1152921504606846976 then 5 else hiK D j := by
  unfold hiK
  rw [List.range_succ, List.any_append]
  by_cases h : D 0 j = 1152921504606846976
  · rw [if_pos h, if_pos (by simp [h])]
  · rw [if_neg h]
    have e : ([j].any fun v => D 0 v == 1152921504606846976) = false := by simp [h]
    rw [e, Bool.or_false]
theorem loK_next (D : Nat → Nat → Int) (j : Nat) : loK D (j + 1) = if D j 0 = 1152921504606846976 then 5 else loK D j := by
  unfold loK
  rw [List.range_succ, List.any_append]
  by_cases h : D j 0 = 1152921504606846976
  · rw [if_pos h, if_pos (by simp [h])]
  · rw [if_neg h]
    have e : ([j].any fun v => D v 0 == 1152921504606846976) = false := by simp [h]
    rw [e, Bool.or_false]
theorem list_of {l : List Int} {N : Nat} {f : Nat → Int} (hl : l.length = N) (h : ∀ i, i < N → l.getD i 0 = f i) : l = (List.range N).map f := by
  refine List.ext_getElem (by simp [hl]) fun i h1 h2 => ?_
  have := h i (by omega)
  rw [List.getD, List.getElem?_eq_getElem h1] at this
  simpa using this
theorem ET.great_list {n : Int} {L : List Lk} {k : Nat} (h : ET n L k) (ho : Ch.opn n L [] k = 0) : greatest n L k = upK (tb n L k) n.toNat :=
  list_of (great_len h.en2.en (h.greatE ho)) fun _ hi => h.great_at ho hi
theorem ET.least_list {n : Int} {L : List Lk} {k : Nat} (h : ET n L k) (ho : Ch.opn n L [] k = 0) : least n L k = dnK (tb n L k) n.toNat :=
  list_of (least_len h.en.en ho) fun _ _ => least_at
theorem ET.great_w {n : Int} {L : List Lk} {k : Nat} (h : ET n L k) (ho : Ch.opn n L [] k = 0) : greatW n L k = if hiK (tb n L k) n.toNat = 0 then (upK (tb n L k) n.toNat, 0) else ([], 5) := by
  unfold greatW whereB hiK
  rw [h.greatE ho, if_neg (by simp), h.great_list ho]
  have e : (upK (tb n L k) n.toNat).any (fun y => y == free) = (List.range n.toNat).any (fun v => tb n L k 0 v == 1152921504606846976) := by
    unfold upK
    rw [List.any_map]
    rfl
  rw [e]
  cases (List.range n.toNat).any (fun v => tb n L k 0 v == 1152921504606846976) <;> rfl
theorem ET.least_w {n : Int} {L : List Lk} {k : Nat} (h : ET n L k) (ho : Ch.opn n L [] k = 0) : leastW n L k = if loK (tb n L k) n.toNat = 0 then (dnK (tb n L k) n.toNat, 0) else ([], 5) := by
  unfold leastW whereB loK
  rw [ho, if_neg (by simp), h.least_list ho]
  have e : (dnK (tb n L k) n.toNat).any (fun y => y == -free) = (List.range n.toNat).any (fun v => tb n L k v 0 == 1152921504606846976) := by
    unfold dnK
    rw [List.any_map]
    congr 1
    funext v
    simp only [Function.comp]
    rw [Bool.eq_iff_iff, beq_iff_eq, beq_iff_eq]
    unfold free
    omega
  rw [e]
  cases (List.range n.toNat).any (fun v => tb n L k v 0 == 1152921504606846976) <;> rfl
theorem ET.great_bad {n : Int} {L : List Lk} {k : Nat} (h : ET n L k) (ho : ¬ Ch.opn n L [] k = 0) : greatW n L k = ([], Ch.opn n L [] k) := by
  have e : Ch.greatE n L k = Ch.opn n L [] k := by
    unfold Ch.greatE
    by_cases hc : (check n L).1 = 0
    · rw [if_neg (by omega), h.openE [] [] rfl]
    · rw [if_pos hc]
      unfold Ch.opn Ch.openE
      rw [if_pos hc]
  unfold greatW whereB
  rw [e, if_pos ho]
theorem least_bad {n : Int} {L : List Lk} {k : Nat} (ho : ¬ Ch.opn n L [] k = 0) : leastW n L k = ([], Ch.opn n L [] k) := by
  unfold leastW whereB
  rw [if_pos ho]
theorem opn_zero {n : Int} {L : List Lk} {k : Nat} : opn n L [0, 0] k = opn n L [] k := by
  by_cases hc : (check n L).1 = 0
  · obtain ⟨n1, _⟩ := check_ok hc
    have e : ([0, 0] : List Int).all (fun i => isIx i n) = true := by simp [isIx]; omega
    rw [opn_nil hc]
    unfold opn openE
    rw [if_neg (fun h => h hc), if_pos e]
  · unfold opn openE
    rw [if_pos hc, if_pos hc]
theorem upK_at {D : Nat → Nat → Int} {N j : Nat} (h : j < N) : (upK D N).getD j 0 = D 0 j := by unfold upK; rw [List.getD, List.getElem?_map, List.getElem?_range h]; rfl
theorem dnK_at {D : Nat → Nat → Int} {N j : Nat} (h : j < N) : (dnK D N).getD j 0 = -(D j 0) := by unfold dnK; rw [List.getD, List.getElem?_map, List.getElem?_range h]; rfl
theorem hiK_two (D : Nat → Nat → Int) (j : Nat) : hiK D j = 0 ∨ hiK D j = 5 := by unfold hiK; split <;> simp
theorem loK_two (D : Nat → Nat → Int) (j : Nat) : loK D j = 0 ∨ loK D j = 5 := by unfold loK; split <;> simp
end Ch
