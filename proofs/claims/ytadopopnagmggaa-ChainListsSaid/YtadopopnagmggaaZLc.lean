/- The law ChainLists, its plain side: what package chain answers is what the specification answers. -/
import Derived.Test.YtadopopnagmggaaZRu
set_option linter.unusedSimpArgs false
set_option linter.unusedVariables false
namespace Ch
theorem follow_sum {L : List Lk} {v : Int} : ∀ (l : List Int) (s u : Int), (l.all fun i => isIx i L.length) = true → follow L v l u s = if (sumR L l s u).2.2 = true then ((sumR L l s u).1, (sumR L l s u).2.1 == v) else (0, false)
  | [], s, u, _ => rfl
  | i :: r, s, u, h => by
    simp only [List.all_cons, Bool.and_eq_true] at h
    have e1 : sumR L (i :: r) s u = if isIx i L.length = true ∧ (L.getD i.toNat noLk).f = u then sumR L r (s + (L.getD i.toNat noLk).m) (L.getD i.toNat noLk).t else (0, 0, false) := by rw [sumR]
    rw [follow, e1]
    by_cases e : (L.getD i.toNat noLk).f = u
    · have e2 : ((L.getD i.toNat noLk).f != u) = false := by rw [e]; simp
      have hc : isIx i L.length = true ∧ (L.getD i.toNat noLk).f = u := ⟨h.1, e⟩
      simp only [if_pos hc]
      rw [e2, if_neg (by simp)]
      exact follow_sum r _ _ h.2
    · have e2 : ((L.getD i.toNat noLk).f != u) = true := by rw [bne_iff_ne]; exact e
      have hc : ¬ (isIx i L.length = true ∧ (L.getD i.toNat noLk).f = u) := fun hh => e hh.2
      simp only [if_neg hc]
      rw [e2, if_pos rfl]
      rfl
/-- what CheckClash should answer, in the law's order -/
def clashWant (L : List Lk) (l : List Int) : Int := if 80 < l.length then 2 else if (l.all fun i => isIx i L.length) = false then 1 else if Go.Proofs.Ytadopopnagmggaa.closedR L l = false then 8 else 0
theorem ix_long {m : Nat} {l : List Int} (h : 80 < l.length) : ixErr m l = 2 := by unfold ixErr; rw [if_pos h]
theorem ix_good {m : Nat} {l : List Int} (h : ¬ 80 < l.length) (h2 : (l.all fun i => isIx i m) = true) : ixErr m l = 0 := by unfold ixErr; rw [if_neg h, if_pos h2]
theorem ix_bad {m : Nat} {l : List Int} (h : ¬ 80 < l.length) (h2 : (l.all fun i => isIx i m) = false) : ixErr m l = 1 := by unfold ixErr; rw [if_neg h, h2]; rfl
theorem checkClash_want {n : Int} {L : List Lk} {l : List Int} (h : (check n L).1 = 0) : checkClash n L l = clashWant L l := by
  by_cases h1 : 80 < l.length
  · have hw : clashWant L l = 2 := by unfold clashWant; rw [if_pos h1]
    rw [hw]
    unfold checkClash
    rw [if_neg (by simpa using h), ix_long h1, if_pos (by decide)]
  · cases h2 : l.all fun i => isIx i L.length
    · have hw : clashWant L l = 1 := by unfold clashWant; rw [if_neg h1, if_pos h2]
      rw [hw]
      unfold checkClash
      rw [if_neg (by simpa using h), ix_bad h1 h2, if_pos (by decide)]
    · have hw : clashWant L l = if Go.Proofs.Ytadopopnagmggaa.closedR L l = false then 8 else 0 := by unfold clashWant; rw [if_neg h1, if_neg (by rw [h2]; simp)]
      rw [hw]
      unfold checkClash
      rw [if_neg (by simpa using h), ix_good h1 h2, if_neg (by decide)]
      by_cases h3 : l = []
      · subst h3; rfl
      · rw [if_neg h3, follow_sum l 0 (start L l) h2]
        have he : l.isEmpty = false := by cases l with | nil => exact absurd rfl h3 | cons _ _ => rfl
        unfold Go.Proofs.Ytadopopnagmggaa.closedR
        rw [he]
        obtain ⟨a, b, c⟩ := sumR L l 0 (start L l)
        cases c
        · simp
        · simp only [if_true, Bool.not_false, Bool.true_and]
          by_cases h4 : b = start L l
          · by_cases h5 : a < 0
            · simp [h4, h5]
            · simp [h4, h5]
          · simp [h4]
/-- what CheckChain should answer -/
def chainWant (n : Int) (L : List Lk) (u v : Int) (l : List Int) : Int :=
  if isIx u n = false ∨ isIx v n = false then 1 else if 80 < l.length then 2 else if (l.all fun i => isIx i L.length) = false then 1 else if (sumR L l 0 u).2.2 = false ∨ (sumR L l 0 u).2.1 ≠ v then 8 else 0
theorem checkChain_want {n : Int} {L : List Lk} {u v : Int} {l : List Int} (h : (check n L).1 = 0) : checkChain n L u v l = (if chainWant n L u v l = 0 then (sumR L l 0 u).1 else 0, chainWant n L u v l) := by
  by_cases g : isIx u n = false ∨ isIx v n = false
  · have hw : chainWant n L u v l = 1 := by unfold chainWant; rw [if_pos g]
    rw [hw]
    unfold checkChain
    rw [if_neg (by simpa using h), if_pos (by rintro ⟨h1, h2⟩; rcases g with g | g <;> simp_all)]
    rfl
  · have g2 : isIx u n = true ∧ isIx v n = true := by
      cases e1 : isIx u n
      · exact absurd (.inl e1) g
      · cases e2 : isIx v n
        · exact absurd (.inr e2) g
        · exact ⟨rfl, rfl⟩
    by_cases h1 : 80 < l.length
    · have hw : chainWant n L u v l = 2 := by unfold chainWant; rw [if_neg g, if_pos h1]
      rw [hw]
      unfold checkChain
      rw [if_neg (by simpa using h), if_neg (fun hh => hh g2), ix_long h1, if_pos (by decide)]
      rfl
    · cases h2 : l.all fun i => isIx i L.length
      · have hw : chainWant n L u v l = 1 := by unfold chainWant; rw [if_neg g, if_neg h1, if_pos h2]
        rw [hw]
        unfold checkChain
        rw [if_neg (by simpa using h), if_neg (fun hh => hh g2), ix_bad h1 h2, if_pos (by decide)]
        rfl
      · have hw : chainWant n L u v l = if (sumR L l 0 u).2.2 = false ∨ (sumR L l 0 u).2.1 ≠ v then 8 else 0 := by unfold chainWant; rw [if_neg g, if_neg h1, if_neg (by rw [h2]; simp)]
        rw [hw]
        unfold checkChain
        rw [if_neg (by simpa using h), if_neg (fun hh => hh g2), ix_good h1 h2, if_neg (by decide), follow_sum l 0 u h2]
        obtain ⟨a, b, c⟩ := sumR L l 0 u
        cases c
        · rfl
        · by_cases h4 : b = v
          · simp [h4]
          · simp [h4]
theorem checkClash_bad {n : Int} {L : List Lk} {l : List Int} (h : (check n L).1 ≠ 0) : checkClash n L l = (check n L).1 := by unfold checkClash; rw [if_pos h]
theorem checkChain_bad {n : Int} {L : List Lk} {u v : Int} {l : List Int} (h : (check n L).1 ≠ 0) : checkChain n L u v l = (0, (check n L).1) := by unfold checkChain; rw [if_pos h]
theorem fits_bad {n : Int} {L : List Lk} {l : List Int} (h : (check n L).1 ≠ 0) : fits n L l = (false, (check n L).1) := by unfold fits; rw [if_pos h]
end Ch
