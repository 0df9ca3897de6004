/- The specification's table of tightest bounds, plain: its first table, its rounds, and what they say. -/
import Derived.Test.YtkcchangkhklcaaZFz
set_option linter.unusedSimpArgs false
set_option linter.unusedVariables false
namespace Ch

def fyLink (D : Nat → Nat → Option Int) (l : Lk) (u v : Nat) : Option Int :=
  if u = l.f.toNat ∧ v = l.t.toNat then some (min ((D u v).getD l.m) l.m) else D u v
/-- the table of the first k links -/
def fyK (L : List Lk) : Nat → Nat → Nat → Option Int
  | 0, u, v => if u = v then some 0 else none
  | k + 1, u, v => fyLink (fyK L k) (L.getD k noLk) u v
theorem fyLink_new {D : Nat → Nat → Option Int} {l : Lk} {u v : Nat} {z : Int} (h : fyLink D l u v = some z) : D u v = some z ∨ (u = l.f.toNat ∧ v = l.t.toNat ∧ z = l.m) := by
  unfold fyLink at h
  split at h
  · rename_i hc
    cases hD : D u v with
    | none =>
      rw [hD] at h
      simp only [Option.getD_none, Int.min_self, Option.some.injEq] at h
      exact .inr ⟨hc.1, hc.2, h.symm⟩
    | some a =>
      rw [hD] at h
      simp only [Option.getD_some, Option.some.injEq] at h
      by_cases ha : a ≤ l.m
      · rw [Int.min_eq_left ha] at h; exact .inl (by rw [h])
      · rw [Int.min_eq_right (by omega)] at h; exact .inr ⟨hc.1, hc.2, h.symm⟩
  · exact .inl h
theorem fyLink_old {D : Nat → Nat → Option Int} {l : Lk} {u v : Nat} {z : Int} (h : D u v = some z) : ∃ z', fyLink D l u v = some z' ∧ z' ≤ z := by
  unfold fyLink
  split
  · rw [h]; exact ⟨_, rfl, Int.min_le_left _ _⟩
  · exact ⟨z, h, Int.le_refl _⟩
theorem fyLink_has (D : Nat → Nat → Option Int) (l : Lk) : ∃ z, fyLink D l l.f.toNat l.t.toNat = some z ∧ z ≤ l.m := by
  unfold fyLink
  rw [if_pos ⟨rfl, rfl⟩]
  exact ⟨_, rfl, Int.min_le_right _ _⟩
theorem fyK_diag {n : Nat} {L : List Lk} (hok : ∀ j, j < L.length → okLk n (L.getD j noLk) = true) (u : Nat) : ∀ k, k ≤ L.length → fyK L k u u = some 0
  | 0, _ => by unfold fyK; rw [if_pos rfl]
  | k + 1, hk => by
    obtain ⟨f0, _, t0, _, hne, _⟩ := okLk_spec (hok k (by omega))
    unfold fyK fyLink
    rw [if_neg (fun e => hne (by omega))]
    exact fyK_diag hok u k (by omega)
theorem fyK_has (L : List Lk) : ∀ k j, j < k → ∃ z, fyK L k (L.getD j noLk).f.toNat (L.getD j noLk).t.toNat = some z ∧ z ≤ (L.getD j noLk).m
  | 0, j, h => absurd h (by omega)
  | k + 1, j, h => by
    by_cases e : j = k
    · subst e; exact fyLink_has _ _
    · obtain ⟨z, hz, hzl⟩ := fyK_has L k j (by omega)
      obtain ⟨z', hz', hzl'⟩ := fyLink_old (l := L.getD k noLk) hz
      exact ⟨z', hz', by omega⟩
theorem fyK_ways {n : Nat} {L : List Lk} (hok : ∀ j, j < L.length → okLk n (L.getD j noLk) = true) : ∀ k, k ≤ L.length → Ways L [] (fyK L k)
  | 0, _ => fun R τ hR u v z hz hv => by
    unfold fyK at hz
    split at hz
    · rename_i e; subst e; cases hz; exact ⟨hv, by omega⟩
    · cases hz
  | k + 1, hk => fun R τ hR u v z hz hv => by
    rcases fyLink_new hz with h1 | ⟨rfl, rfl, rfl⟩
    · exact fyK_ways hok k (by omega) R τ hR u v z h1 hv
    · obtain ⟨_, _, t0, _⟩ := okLk_spec (hok k (by omega))
      refine hR _ hv _ ?_
      unfold linksInto into
      refine List.mem_map.2 ⟨k, List.mem_filter.2 ⟨List.mem_filter.2 ⟨List.mem_range.2 (by omega), ?_⟩, by simp⟩, rfl⟩
      rw [beq_iff_eq]
      omega

/-- the table after k rounds -/
def fyR (L : List Lk) : Nat → Nat → Nat → Option Int
  | 0 => fyK L L.length
  | k + 1 => fyStep (fyR L k) k
theorem fyR_ways {n : Nat} {L : List Lk} (hok : ∀ j, j < L.length → okLk n (L.getD j noLk) = true) : ∀ k, Ways L [] (fyR L k)
  | 0 => fyK_ways hok _ (Nat.le_refl _)
  | k + 1 => (fyR_ways hok k).step k
theorem fyR_has (L : List Lk) : ∀ k j, j < L.length → ∃ z, fyR L k (L.getD j noLk).f.toNat (L.getD j noLk).t.toNat = some z ∧ z ≤ (L.getD j noLk).m
  | 0, j, h => fyK_has L _ j h
  | k + 1, j, h => by
    obtain ⟨z, hz, hzl⟩ := fyR_has L k j h
    obtain ⟨z', hz', hzl'⟩ := fy_old (k := k) hz
    exact ⟨z', hz', by omega⟩
/-- a diagonal is 0 or below -/
theorem fyR_diag {n : Nat} {L : List Lk} (hok : ∀ j, j < L.length → okLk n (L.getD j noLk) = true) (u : Nat) : ∀ k, ∃ z, fyR L k u u = some z ∧ z ≤ 0
  | 0 => ⟨0, fyK_diag hok u _ (Nat.le_refl _), Int.le_refl _⟩
  | k + 1 => by
    obtain ⟨z, hz, hzl⟩ := fyR_diag hok u k
    obtain ⟨z', hz', hzl'⟩ := fy_old (k := k) hz
    exact ⟨z', hz', by omega⟩
/-- below 0: there is no solution -/
theorem fyR_bad {n : Nat} {L : List Lk} (hok : ∀ j, j < L.length → okLk n (L.getD j noLk) = true) {k u : Nat} {z : Int} (h : fyR L k u u = some z) (hz : z < 0) : ¬ ∃ σ, Sol L [] σ := by
  rintro ⟨σ, hσ⟩
  have := (fyR_ways hok k (fun _ => True) σ (fun t _ l hl => ⟨trivial, hσ t l hl⟩) u u z h trivial).2
  omega
/-- no diagonal below 0 in any round: no shorter ways -/
theorem fyR_tri {n : Nat} {L : List Lk} (hok : ∀ j, j < L.length → okLk n (L.getD j noLk) = true) : ∀ k, (∀ j, j < k → ∃ z, fyR L j j j = some z ∧ 0 ≤ z) → Tri (fyR L k) k
  | 0, _ => fun j hj => absurd hj (by omega)
  | k + 1, h => by
    obtain ⟨z, hz, h0⟩ := h k (by omega)
    exact (fyR_tri hok k (fun j hj => h j (by omega))).step hz h0
/-- the last table, when no diagonal fell below 0: settle's bounds -/
theorem fyR_bt {n : Nat} (n1 : 1 ≤ n) (n2 : n ≤ 60) {L : List Lk} (hok : ∀ j, j < L.length → okLk n (L.getD j noLk) = true) (hd : ∀ j u, j ≤ n → u < n → fyR L j u u = some 0) {k v : Nat} (hv : v < n) {s : List Int} (h : boundsTo n L [] k v = some (some s)) :
    ∀ i, i < n → s.getD i 0 = (fyR L n i v).getD free := by
  refine bt_fy n1 n2 hok hv h (fyR_tri hok n (fun j hj => ⟨0, hd j j (by omega) hj, Int.le_refl _⟩)) (fun u hu => hd n u (Nat.le_refl _) hu) (fun t l hl => ?_) (fyR_ways hok n)
  obtain ⟨i, hi, e, ht⟩ := mem_linksInto hl
  obtain ⟨z, hz, hzl⟩ := fyR_has L n i hi
  rw [← e] at hz hzl
  exact ⟨z, by rw [show t = l.t.toNat by omega]; exact hz, hzl⟩
end Ch
