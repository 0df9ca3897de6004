/- The specification's tables of chains by their numbers of links, plain: they hold what sumsTo holds. -/
import Derived.Test.YtkcchangkhklcaaZMUjUk
set_option linter.unusedSimpArgs false
set_option linter.unusedVariables false
namespace Ch

/-- a row, one link more: the first j links are looked at -/
def tabJ (L : List Lk) (P : Nat → Int) : Nat → Nat → Int
  | 0, _ => 1152921504606846976
  | j + 1, v => if (L.getD j noLk).t.toNat = v ∧ P (L.getD j noLk).f.toNat ≠ 1152921504606846976 then min (tabJ L P j v) (P (L.getD j noLk).f.toNat + (L.getD j noLk).m) else tabJ L P j v
/-- the table of k links -/
def tabF (L : List Lk) : Nat → Nat → Nat → Int
  | 0, u, v => if u = v then 0 else 1152921504606846976
  | k + 1, u, v => tabJ L (tabF L k u) L.length v
theorem tabJ_le {L : List Lk} {P : Nat → Int} {i : Nat} (hP : P (L.getD i noLk).f.toNat ≠ 1152921504606846976) : ∀ {j : Nat}, i < j → tabJ L P j (L.getD i noLk).t.toNat ≤ P (L.getD i noLk).f.toNat + (L.getD i noLk).m
  | 0, h => by omega
  | j + 1, h => by
    rw [tabJ]
    by_cases e : i = j
    · subst e
      rw [if_pos ⟨rfl, hP⟩]
      exact Int.min_le_right _ _
    · have ih := tabJ_le hP (j := j) (by omega)
      split
      · exact Int.le_trans (Int.min_le_left _ _) ih
      · exact ih
theorem tabJ_at {L : List Lk} {P : Nat → Int} {v : Nat} : ∀ {j : Nat}, tabJ L P j v ≠ 1152921504606846976 → ∃ i, i < j ∧ (L.getD i noLk).t.toNat = v ∧ P (L.getD i noLk).f.toNat ≠ 1152921504606846976 ∧ tabJ L P j v = P (L.getD i noLk).f.toNat + (L.getD i noLk).m
  | 0, h => absurd rfl h
  | j + 1, h => by
    rw [tabJ] at h ⊢
    split at h
    · rename_i hc
      rw [if_pos hc]
      by_cases hl : tabJ L P j v ≤ P (L.getD j noLk).f.toNat + (L.getD j noLk).m
      · rw [Int.min_eq_left hl] at h ⊢
        obtain ⟨i, h1, h2⟩ := tabJ_at h
        exact ⟨i, by omega, h2⟩
      · rw [Int.min_eq_right (by omega)]
        exact ⟨j, by omega, hc.1, hc.2, rfl⟩
    · rename_i hc
      rw [if_neg hc]
      obtain ⟨i, h1, h2⟩ := tabJ_at h
      exact ⟨i, by omega, h2⟩
theorem tabF_way {n : Nat} {L : List Lk} (hok : ∀ j, j < L.length → okLk n (L.getD j noLk) = true) : ∀ (k : Nat) {u v : Nat} {j : Nat}, j ≤ L.length → tabJ L (tabF L k u) j v ≠ 1152921504606846976 → ∃ l : List Nat, l.length = k + 1 ∧ way L [] u l v (tabJ L (tabF L k u) j v) := by
  intro k
  induction k with
  | zero =>
    intro u v j hj h
    obtain ⟨i, h1, h2, h3, h4⟩ := tabJ_at h
    obtain ⟨f0, _, t0, _⟩ := okLk_spec (hok i (by omega))
    have h3' : (if u = (L.getD i noLk).f.toNat then (0 : Int) else 1152921504606846976) ≠ 1152921504606846976 := h3
    have e : u = (L.getD i noLk).f.toNat := by
      by_cases e : u = (L.getD i noLk).f.toNat
      · exact e
      · rw [if_neg e] at h3'; exact absurd rfl h3'
    have h5 : tabF L 0 u (L.getD i noLk).f.toNat = 0 := by show (if u = (L.getD i noLk).f.toNat then (0 : Int) else _) = 0; rw [if_pos e]
    rw [h4, h5, Int.zero_add]
    have hw := way_one (L := L) (drop := []) (i := i) (by omega) rfl
    refine ⟨[i], rfl, ?_⟩
    rw [show (u : Int) = (L.getD i noLk).f by omega, show (v : Int) = (L.getD i noLk).t by omega]
    exact hw
  | succ k ih =>
    intro u v j hj h
    obtain ⟨i, h1, h2, h3, h4⟩ := tabJ_at h
    obtain ⟨f0, _, t0, _⟩ := okLk_spec (hok i (by omega))
    obtain ⟨l, hl, hw⟩ := ih (Nat.le_refl _) h3
    have h5 : tabJ L (tabF L k u) L.length (L.getD i noLk).f.toNat = tabF L (k + 1) u (L.getD i noLk).f.toNat := rfl
    rw [h5] at hw
    rw [show (((L.getD i noLk).f.toNat : Nat) : Int) = (L.getD i noLk).f by omega] at hw
    have := way_snoc (L := L) (drop := []) (i := i) (by omega) rfl hw
    rw [h4]
    refine ⟨l ++ [i], by simp [hl], ?_⟩
    rw [show (v : Int) = (L.getD i noLk).t by omega]
    exact this
theorem tabF_ex {n : Nat} {L : List Lk} (hok : ∀ j, j < L.length → okLk n (L.getD j noLk) = true) {k u v : Nat} (h : tabF L k u v ≠ 1152921504606846976) : ∃ l : List Nat, l.length = k ∧ way L [] u l v (tabF L k u v) := by
  cases k with
  | zero =>
    have h' : (if u = v then (0 : Int) else 1152921504606846976) ≠ 1152921504606846976 := h
    have e : u = v := by
      by_cases e : u = v
      · exact e
      · rw [if_neg e] at h'; exact absurd rfl h'
    have h5 : tabF L 0 u v = 0 := by show (if u = v then (0 : Int) else _) = 0; rw [if_pos e]
    rw [h5, e]
    exact ⟨[], rfl, rfl, rfl⟩
  | succ k => exact tabF_way hok k (Nat.le_refl _) h
theorem tabF_le {n : Nat} {L : List Lk} (hok : ∀ j, j < L.length → okLk n (L.getD j noLk) = true) : ∀ (k : Nat) {l : List Nat} {u : Nat} {v w : Int}, l.length = k → k ≤ 200 → way L [] u l v w → tabF L k u v.toNat ≤ w ∧ tabF L k u v.toNat ≠ 1152921504606846976
  | 0, l, u, v, w, hl, _, h => by
    have : l = [] := List.length_eq_zero_iff.1 hl
    subst this
    obtain ⟨rfl, rfl⟩ := h
    have h5 : tabF L 0 u ((u : Int).toNat) = 0 := by show (if u = u then (0 : Int) else _) = 0; rw [if_pos rfl]
    rw [h5]
    exact ⟨Int.le_refl _, by decide⟩
  | k + 1, l, u, v, w, hl, hk, h => by
    have hs := way_small hok h
    rcases List.eq_nil_or_concat l with rfl | ⟨q, i, rfl⟩
    · simp at hl
    · have hq : q.length = k := by simpa using hl
      rw [List.concat_eq_append] at h hs
      obtain ⟨x, a, h1, h2⟩ := way_split h
      obtain ⟨g0, _, gf, gt, gw⟩ := h2
      obtain ⟨f0, _, t0, _⟩ := okLk_spec (hok i g0)
      obtain ⟨i1, i2⟩ := tabF_le hok k hq (by omega) h1
      rw [← gf] at i1 i2
      have h3 := tabJ_le (L := L) (P := tabF L k u) (i := i) i2 g0
      rw [gt] at h3
      have h4 : tabF L (k + 1) u v.toNat = tabJ L (tabF L k u) L.length v.toNat := rfl
      rw [h4]
      have hlen : (q ++ [i]).length = k + 1 := by simp [hq]
      rw [hlen] at hs
      refine ⟨by omega, by omega⟩
/-- the tables hold what sumsTo holds -/
theorem tabF_sums {n : Nat} {L : List Lk} (hok : ∀ j, j < L.length → okLk n (L.getD j noLk) = true) {k u v : Nat} (hk : k ≤ 200) (hu : u < n) (hv : v < n) : tabF L k u v = (sumsTo n L [] v k).getD u 0 := by
  have g1 : tabF L k u v ≠ 1152921504606846976 → (sumsTo n L [] v k).getD u 0 ≤ tabF L k u v ∧ (sumsTo n L [] v k).getD u 0 ≠ 1152921504606846976 := fun h => by
    obtain ⟨l, hl, hw⟩ := tabF_ex hok h
    have h1 := sums_le hok hv (by omega) hw
    rw [hl, show ((u : Int)).toNat = u from rfl] at h1
    have h2 := (way_small hok hw).2
    exact ⟨h1, by omega⟩
  have g2 : (sumsTo n L [] v k).getD u 0 ≠ 1152921504606846976 → tabF L k u v ≤ (sumsTo n L [] v k).getD u 0 ∧ tabF L k u v ≠ 1152921504606846976 := fun h => by
    obtain ⟨l, hl, hw⟩ := sums_way hok k hu h
    exact tabF_le hok k hl hk hw
  by_cases h : tabF L k u v = 1152921504606846976
  · by_cases h2 : (sumsTo n L [] v k).getD u 0 = 1152921504606846976
    · rw [h, h2]
    · exact absurd h (g2 h2).2
  · have a := g1 h
    have b := g2 a.2
    omega
theorem tabJ_small {n : Nat} {L : List Lk} (hok : ∀ j, j < L.length → okLk n (L.getD j noLk) = true) {k u v j : Nat} (hk : k ≤ 100) (hj : j ≤ L.length) : -454871967178686464 ≤ tabJ L (tabF L k u) j v ∧ (tabJ L (tabF L k u) j v = 1152921504606846976 ∨ tabJ L (tabF L k u) j v ≤ 454871967178686464) := by
  by_cases h : tabJ L (tabF L k u) j v = 1152921504606846976
  · rw [h]; omega
  · obtain ⟨l, hl, hw⟩ := tabF_way hok k hj h
    have := way_small hok hw
    rw [hl] at this
    omega
theorem tabF_small {n : Nat} {L : List Lk} (hok : ∀ j, j < L.length → okLk n (L.getD j noLk) = true) {k u v : Nat} (hk : k ≤ 100) : -450359962737049600 ≤ tabF L k u v ∧ (tabF L k u v = 1152921504606846976 ∨ tabF L k u v ≤ 450359962737049600) := by
  by_cases h : tabF L k u v = 1152921504606846976
  · rw [h]; omega
  · obtain ⟨l, hl, hw⟩ := tabF_ex hok h
    have := way_small hok hw
    rw [hl] at this
    omega
/-- the row u of the table in the midst of its making: the rows before it are done, it has seen j links -/
def tabM (L : List Lk) (k u j a b : Nat) : Int := if a < u then tabF L (k + 1) a b else if a = u then tabJ L (tabF L k u) j b else if a = b then 0 else 1152921504606846976
/-- before the row u is begun -/
def tabN (L : List Lk) (k u a b : Nat) : Int := if a < u then tabF L (k + 1) a b else if a = b then 0 else 1152921504606846976
theorem tabN_zero {L : List Lk} {k a b : Nat} : (if a = b then (0 : Int) else 1152921504606846976) = tabN L k 0 a b := by unfold tabN; rw [if_neg (Nat.not_lt_zero _)]
theorem tabN_begin {L : List Lk} {k u a b : Nat} : (if a = u ∧ b = u then (1152921504606846976 : Int) else tabN L k u a b) = tabM L k u 0 a b := by
  unfold tabM tabN
  by_cases h : a < u
  · rw [if_neg (by omega), if_pos h, if_pos h]
  · rw [if_neg h, if_neg h]
    by_cases h2 : a = u
    · rw [if_pos h2]
      show _ = (1152921504606846976 : Int)
      split
      · rfl
      · split
        · omega
        · rfl
    · rw [if_neg (fun e => h2 e.1), if_neg h2]
theorem tabM_done {L : List Lk} {k u a b : Nat} : tabM L k u L.length a b = tabN L k (u + 1) a b := by
  unfold tabM tabN
  by_cases h : a < u
  · rw [if_pos h, if_pos (show a < u + 1 by omega)]
  · rw [if_neg h]
    by_cases h2 : a = u
    · rw [if_pos h2, if_pos (show a < u + 1 by omega), h2]; rfl
    · rw [if_neg h2, if_neg (show ¬ a < u + 1 by omega)]
theorem tabN_end {L : List Lk} {k n a b : Nat} (h : a < n) : tabN L k n a b = tabF L (k + 1) a b := by unfold tabN; rw [if_pos h]
theorem tabM_at {L : List Lk} {k u j b : Nat} : tabM L k u j u b = tabJ L (tabF L k u) j b := by unfold tabM; rw [if_neg (by omega), if_pos rfl]
theorem tabM_keep {L : List Lk} {k u j a b : Nat} (h : tabF L k u (L.getD j noLk).f.toNat = 1152921504606846976) : tabM L k u j a b = tabM L k u (j + 1) a b := by
  have e : tabJ L (tabF L k u) (j + 1) b = tabJ L (tabF L k u) j b := by rw [tabJ, if_neg (fun h2 => h2.2 h)]
  unfold tabM
  rw [e]
theorem tabM_next {L : List Lk} {k u j a b : Nat} {z : Int} (h : tabF L k u (L.getD j noLk).f.toNat ≠ 1152921504606846976) (hz : min (tabJ L (tabF L k u) j (L.getD j noLk).t.toNat) (tabF L k u (L.getD j noLk).f.toNat + (L.getD j noLk).m) = z) : (if a = u ∧ b = (L.getD j noLk).t.toNat then z else tabM L k u j a b) = tabM L k u (j + 1) a b := by
  unfold tabM
  by_cases h1 : a < u
  · rw [if_neg (by omega), if_pos h1, if_pos h1]
  · rw [if_neg h1, if_neg h1]
    by_cases h2 : a = u
    · rw [if_pos h2, if_pos h2, tabJ]
      by_cases h3 : (L.getD j noLk).t.toNat = b
      · rw [if_pos ⟨h2, h3.symm⟩, if_pos ⟨h3, h⟩, ← hz, h3]
      · rw [if_neg (fun e => h3 e.2.symm), if_neg (fun e => h3 e.1)]
    · rw [if_neg (fun e => h2 e.1), if_neg h2, if_neg h2]
end Ch
