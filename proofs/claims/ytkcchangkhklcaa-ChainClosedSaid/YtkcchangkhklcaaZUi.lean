/- Package chain, mirrored: the slack of a further link. -/
import Derived.Test.YtkcchangkhklcaaZUh
set_option linter.unusedSimpArgs false
set_option linter.unusedVariables false
namespace Ch
theorem slack_new {n : Int} {L : List Lk} {x : Lk} {k : Nat} (h : opn n (L ++ [x]) [] k = 0) : slack n (L ++ [x]) k (L.length : Int) = if tb n (L ++ [x]) k x.t.toNat x.f.toNat = free then (0, 5) else (tb n (L ++ [x]) k x.t.toNat x.f.toNat + x.m, 0) := by
  obtain ⟨c1, _, c3⟩ := opn_ok h
  obtain ⟨f0, f1, t0, t1, _⟩ := okLk_spec (more_ok c1)
  have h1 : opn n (L ++ [x]) [x.t, x.f] k = 0 := by
    unfold opn openE
    rw [if_neg (by omega), if_pos (by simp [isIx]; omega), c3]
    rfl
  have hx : isIx (L.length : Int) ((L ++ [x]).length : Int) = true := by
    rw [List.length_append]
    show isIx (L.length : Int) ((L.length + 1 : Nat) : Int) = true
    unfold isIx
    simp
    omega
  have hb : bound n (L ++ [x]) k x.t x.f = if tb n (L ++ [x]) k x.t.toNat x.f.toNat = free then (0, 5) else (tb n (L ++ [x]) k x.t.toNat x.f.toNat, 0) := by
    unfold bound
    rw [if_neg (by omega)]
    rfl
  unfold slack
  rw [if_neg (by omega), if_neg (by rw [hx]; simp), show ((L.length : Int)).toNat = L.length from rfl, last_lk, hb]
  by_cases hf : tb n (L ++ [x]) k x.t.toNat x.f.toNat = free
  · rw [if_pos hf, if_pos hf, if_pos (by decide)]
  · rw [if_neg hf, if_neg hf, if_neg (by simp)]
theorem with_one {n : Int} {L : List Lk} {x : Lk} (h : withE n L [x] = 0) : (check n L).1 = 0 ∧ (check n (L ++ [x])).1 = 0 := by
  unfold withE at h
  split at h
  · rename_i h1; exact absurd h h1
  · rename_i h1
    split at h
    · cases h
    · exact ⟨Classical.byContradiction h1, h⟩
theorem opn_nil {n : Int} {L : List Lk} {k : Nat} (hc : (check n L).1 = 0) : opn n L [] k = if cons n.toNat L [] k = true then 0 else 9 := by
  unfold opn openE
  rw [if_neg (by omega)]
  simp
end Ch
