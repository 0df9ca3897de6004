/- Layer 3, plain: what the stage's theorem says of heights that can be chosen. -/
import Derived.Test.YtidcedilfhmllaaDoorZThf
import Derived.Test.YtidcedilfhmllaaDoorZ06
set_option linter.unusedSimpArgs false
set_option linter.unusedVariables false
namespace Pl
theorem frd_grp {s : Nat} (hs : s ≤ 6) {m : Int} (hm : m ≤ 6) {W : List Wk} (hW : Ok m W) {p : Int} (hp : 0 ≤ p ∧ p < m) :
    frd s (signs W p) = ((evG s (signs W p)).length : Int) - if minusS (signs W p) then 0 else 1 := by
  have hG := signs_grp hm hW hp
  have hu := (clsL_uf hs (G := signs W p) hG.lt).1
  unfold frd free
  rw [hG.evs hs hu]
theorem three_flat {s a b : Nat} (h1 : 1 ≤ s) (h6 : s ≤ 6) (ha : a < 8) (hb : b < 8) {p : Int} (hp : p = 0 ∨ p = 1 ∨ p = 2) : frd s (signs (shop3 a b 0) p) = 0 := by
  have hs := signs3 (r := 0) ha hb (.inl rfl) hp
  rw [if_pos rfl, List.mem_singleton] at hs
  rw [frd_grp h6 (m := 3) (by omega) (ok3 ha hb (by omega)) (by omega), hs]
  have h := range_all flat0_all (show s < 7 by omega)
  rw [Bool.or_eq_true, beq_iff_eq, beq_iff_eq] at h
  rcases h with h | h
  · omega
  · rw [h]; rfl
theorem three_twist {s a b r : Nat} (h2 : 2 ≤ s) (h6 : s ≤ 6) (ha : a < 8) (hb : b < 8) (h4 : 4 ≤ r) (hr : r < 8) {p : Int} (hp : p = 0 ∨ p = 1 ∨ p = 2) : frd s (signs (shop3 a b r) p) ≠ 0 := by
  have hs := signs3 ha hb (.inr ⟨h4, hr⟩) hp
  rw [if_neg (by omega)] at hs
  rw [frd_grp h6 (m := 3) (by omega) (ok3 ha hb hr) (by omega)]
  have h := range_all twist_all (show s < 7 by omega)
  rw [Bool.or_eq_true, decide_eq_true_eq, List.all_eq_true] at h
  have key : ∀ t, t ∈ [4, 5, 6, 7] → signs (shop3 a b r) p = [(0, false), (t, true)] → ((evG s (signs (shop3 a b r) p)).length : Int) - (if minusS (signs (shop3 a b r) p) then 0 else 1) ≠ 0 := by
    intro t ht e
    rw [e]
    rcases h with h | h
    · omega
    · have k := h t ht
      rw [bne_iff_ne] at k
      have m1 : minusS [(0, false), (t, true)] = true := rfl
      rw [m1, if_pos rfl]
      intro c
      exact k (List.length_eq_zero_iff.1 (by omega))
  simp only [List.mem_cons, List.not_mem_nil, or_false] at hs
  rcases hs with hs | hs | hs | hs
  · exact key 4 (by simp) hs
  · exact key 5 (by simp) hs
  · exact key 6 (by simp) hs
  · exact key 7 (by simp) hs
theorem three_more {s a b r : Nat} (hs4 : s ≤ 4) (ha : a < 8) (hb : b < 8) (h4 : 4 ≤ r) (hr : r < 8) {p : Int} (hp : p = 0 ∨ p = 1 ∨ p = 2) : frd s (signs (shop4 a b r) p) = if s = 4 then 1 else 0 := by
  have hs := signs4 ha hb h4 hr hp
  rw [frd_grp (show s ≤ 6 by omega) (m := 3) (by omega) (ok4 ha hb hr) (by omega), evG_congr s hs]
  have m1 : minusS (signs (shop4 a b r) p) = true := by
    unfold minusS
    rw [List.any_eq_true]
    exact ⟨(4, true), (hs _).2 (by unfold dih; simp), rfl⟩
  rw [m1, if_pos rfl]
  have h := range_all dih_all (show s < 7 by omega)
  rw [Bool.or_eq_true, decide_eq_true_eq, beq_iff_eq] at h
  rcases h with h | h
  · omega
  · rw [h]
    by_cases e : s = 4 <;> simp [e]
end Pl
