/- Several texts one behind the other. -/
import Derived.Test.YtkcchangkhklcaaZMTgFz
set_option linter.unusedSimpArgs false
set_option linter.unusedVariables false
/- The specification's table of tightest bounds, plain: its first table, its rounds, and what they say. -/
namespace Ch

def fyLink (D : Nat → Nat → Option Int) (l : Lk) (u v : Nat) : Option Int :=
  if u = l.f.toNat ∧ v = l.t.toNat then some (min ((D u v).getD l.m) l.m) else D u v
/-- the table of the first k links -/
def fyK (L : List Lk) : Nat → Nat → Nat → Option Int
  | 0, u, v => if u = v then some 0 else none
  | k + 1, u, v => fyLink (fyK L k) (L.getD k noLk) u v
theorem fyLink_new {D : Nat → Nat → Option Int} {l : Lk} {u v : Nat} {z : Int} (h : fyLink D l u v = some z) : D u v = some z ∨ (u = l.f.toNat ∧ v = l.t.toNat ∧ z = l.m) := by
  unfold fyLink at h
  split at h
  · rename_i hc
    cases hD : D u v with
    | none =>
      rw [hD] at h
      simp only [Option.getD_none, Int.min_self, Option.some.injEq] at h
      exact .inr ⟨hc.1, hc.2, h.symm⟩
    | some a =>
      rw [hD] at h
      simp only [Option.getD_some, Option.some.injEq] at h
      by_cases ha : a ≤ l.m
      · rw [Int.min_eq_left ha] at h; exact .inl (by rw [h])
      · rw [Int.min_eq_right (by omega)] at h; exact .inr ⟨hc.1, hc.2, h.symm⟩
  · exact .inl h
theorem fyLink_old {D : Nat → Nat → Option Int} {l : Lk} {u v : Nat} {z : Int} (h : D u v = some z) : ∃ z', fyLink D l u v = some z' ∧ z' ≤ z := by
  unfold fyLink
  split
  · rw [h]; exact ⟨_, rfl, Int.min_le_left _ _⟩
  · exact ⟨z, h, Int.le_refl _⟩
theorem fyLink_has (D : Nat → Nat → Option Int) (l : Lk) : ∃ z, fyLink D l l.f.toNat l.t.toNat = some z ∧ z ≤ l.m := by
  unfold fyLink
  rw [if_pos ⟨rfl, rfl⟩]
  exact ⟨_, rfl, Int.min_le_right _ _⟩
theorem fyK_diag {n : Nat} {L : List Lk} (hok : ∀ j, j < L.length → okLk n (L.getD j noLk) = true) (u : Nat) : ∀ k, k ≤ L.length → fyK L k u u = some 0
  | 0, _ => by unfold fyK; rw [if_pos rfl]
  | k + 1, hk => by
    obtain ⟨f0, _, t0, _, hne, _⟩ := okLk_spec (hok k (by omega))
    unfold fyK fyLink
    rw [if_neg (fun e => hne (by omega))]
    exact fyK_diag hok u k (by omega)
theorem fyK_has (L : List Lk) : ∀ k j, j < k → ∃ z, fyK L k (L.getD j noLk).f.toNat (L.getD j noLk).t.toNat = some z ∧ z ≤ (L.getD j noLk).m
  | 0, j, h => absurd h (by omega)
  | k + 1, j, h => by
    by_cases e : j = k
    · subst e; exact fyLink_has _ _
    · obtain ⟨z, hz, hzl⟩ := fyK_has L k j (by omega)
      obtain ⟨z', hz', hzl'⟩ := fyLink_old (l := L.getD k noLk) hz
      exact ⟨z', hz', by omega⟩
theorem fyK_ways {n : Nat} {L : List Lk} (hok : ∀ j, j < L.length → okLk n (L.getD j noLk) = true) : ∀ k, k ≤ L.length → Ways L [] (fyK L k)
  | 0, _ => fun R τ hR u v z hz hv => by
    unfold fyK at hz
    split at hz
    · rename_i e; subst e; cases hz; exact ⟨hv, by omega⟩
    · cases hz
  | k + 1, hk => fun R τ hR u v z hz hv => by
    rcases fyLink_new hz with h1 | ⟨rfl, rfl, rfl⟩
    · exact fyK_ways hok k (by omega) R τ hR u v z h1 hv
    · obtain ⟨_, _, t0, _⟩ := okLk_spec (hok k (by omega))
      refine hR _ hv _ ?_
      unfold linksInto into
      refine List.mem_map.2 ⟨k, List.mem_filter.2 ⟨List.mem_filter.2 ⟨List.mem_range.2 (by omega), ?_⟩, by simp⟩, rfl⟩
      rw [beq_iff_eq]
      omega

/-- the table after k rounds -/
def fyR (L : List Lk) : Nat → Nat → Nat → Option Int
  | 0 => fyK L L.length
  | k + 1 => fyStep (fyR L k) k
theorem fyR_ways {n : Nat} {L : List Lk} (hok : ∀ j, j < L.length → okLk n (L.getD j noLk) = true) : ∀ k, Ways L [] (fyR L k)
  | 0 => fyK_ways hok _ (Nat.le_refl _)
  | k + 1 => (fyR_ways hok k).step k
theorem fyR_has (L : List Lk) : ∀ k j, j < L.length → ∃ z, fyR L k (L.getD j noLk).f.toNat (L.getD j noLk).t.toNat = some z ∧ z ≤ (L.getD j noLk).m
  | 0, j, h => fyK_has L _ j h
  | k + 1, j, h => by
    obtain ⟨z, hz, hzl⟩ := fyR_has L k j h
    obtain ⟨z', hz', hzl'⟩ := fy_old (k := k) hz
    exact ⟨z', hz', by omega⟩
/-- a diagonal is 0 or below -/
theorem fyR_diag {n : Nat} {L : List Lk} (hok : ∀ j, j < L.length → okLk n (L.getD j noLk) = true) (u : Nat) : ∀ k, ∃ z, fyR L k u u = some z ∧ z ≤ 0
  | 0 => ⟨0, fyK_diag hok u _ (Nat.le_refl _), Int.le_refl _⟩
  | k + 1 => by
    obtain ⟨z, hz, hzl⟩ := fyR_diag hok u k
    obtain ⟨z', hz', hzl'⟩ := fy_old (k := k) hz
    exact ⟨z', hz', by omega⟩
/-- below 0: there is no solution -/
theorem fyR_bad {n : Nat} {L : List Lk} (hok : ∀ j, j < L.length → okLk n (L.getD j noLk) = true) {k u : Nat} {z : Int} (h : fyR L k u u = some z) (hz : z < 0) : ¬ ∃ σ, Sol L [] σ := by
  rintro ⟨σ, hσ⟩
  have := (fyR_ways hok k (fun _ => True) σ (fun t _ l hl => ⟨trivial, hσ t l hl⟩) u u z h trivial).2
  omega
/-- no diagonal below 0 in any round: no shorter ways -/
theorem fyR_tri {n : Nat} {L : List Lk} (hok : ∀ j, j < L.length → okLk n (L.getD j noLk) = true) : ∀ k, (∀ j, j < k → ∃ z, fyR L j j j = some z ∧ 0 ≤ z) → Tri (fyR L k) k
  | 0, _ => fun j hj => absurd hj (by omega)
  | k + 1, h => by
    obtain ⟨z, hz, h0⟩ := h k (by omega)
    exact (fyR_tri hok k (fun j hj => h j (by omega))).step hz h0
/-- the last table, when no diagonal fell below 0: settle's bounds -/
theorem fyR_bt {n : Nat} (n1 : 1 ≤ n) (n2 : n ≤ 60) {L : List Lk} (hok : ∀ j, j < L.length → okLk n (L.getD j noLk) = true) (hd : ∀ j u, j ≤ n → u < n → fyR L j u u = some 0) {k v : Nat} (hv : v < n) {s : List Int} (h : boundsTo n L [] k v = some (some s)) :
    ∀ i, i < n → s.getD i 0 = (fyR L n i v).getD free := by
  refine bt_fy n1 n2 hok hv h (fyR_tri hok n (fun j hj => ⟨0, hd j j (by omega) hj, Int.le_refl _⟩)) (fun u hu => hd n u (Nat.le_refl _) hu) (fun t l hl => ?_) (fyR_ways hok n)
  obtain ⟨i, hi, e, ht⟩ := mem_linksInto hl
  obtain ⟨z, hz, hzl⟩ := fyR_has L n i hi
  rw [← e] at hz hzl
  exact ⟨z, by rw [show t = l.t.toNat by omega]; exact hz, hzl⟩
end Ch

/- The specification's table, plain: its numbers stay small as long as no diagonal is below 0. -/
namespace Ch

theorem fy_new2 {D : Nat → Nat → Option Int} {k u v : Nat} {z : Int} (h : fyStep D k u v = some z) : D u v = some z ∨ ∃ x y, D u k = some x ∧ D k v = some y ∧ z = x + y ∧ ∀ z0, D u v = some z0 → x + y < z0 := by
  unfold fyStep at h
  split at h
  · rename_i x y h1 h2
    split at h
    · rename_i w h3
      by_cases hc : w ≤ x + y
      · rw [Int.min_eq_left hc] at h; exact .inl (h3.trans h)
      · rw [Int.min_eq_right (by omega)] at h
        refine .inr ⟨x, y, h1, h2, (Option.some.inj h).symm, fun z0 hz0 => ?_⟩
        rw [h3] at hz0; cases hz0; omega
    · rename_i h3
      refine .inr ⟨x, y, h1, h2, (Option.some.inj h).symm, fun z0 hz0 => ?_⟩
      rw [h3] at hz0; cases hz0
  · exact .inl h
/-- a bound is a way over different nodes below k -/
def Via (D : Nat → Nat → Option Int) (k u v : Nat) (z : Int) (P : List Nat) : Prop :=
  P.Nodup ∧ (∀ j ∈ P, j < k ∧ ∃ a b, D u j = some a ∧ D j v = some b ∧ a + b ≤ z) ∧ -4503599627370496 * ((P.length : Int) + 1) ≤ z ∧ z ≤ 4503599627370496 * ((P.length : Int) + 1)
def Vias (D : Nat → Nat → Option Int) (k : Nat) : Prop := ∀ u v z, D u v = some z → ∃ P, Via D k u v z P
theorem Vias.step {D : Nat → Nat → Option Int} {k : Nat} (h : Vias D k) (hT : Tri D k) {c : Int} (hc : D k k = some c) (h0 : 0 ≤ c) : Vias (fyStep D k) (k + 1) := by
  intro u v z hz
  rcases fy_new2 hz with h1 | ⟨x, y, h1, h2, rfl, h3⟩
  · obtain ⟨P, hP1, hP2, hP3⟩ := h u v z h1
    refine ⟨P, hP1, fun j hj => ?_, hP3⟩
    obtain ⟨hjk, a, b, ha, hb, hab⟩ := hP2 j hj
    obtain ⟨a', ha', hal⟩ := fy_old (k := k) ha
    obtain ⟨b', hb', hbl⟩ := fy_old (k := k) hb
    exact ⟨by omega, a', b', ha', hb', by omega⟩
  · obtain ⟨P, hP1, hP2, hP3, hP4⟩ := h u k x h1
    obtain ⟨Q, hQ1, hQ2, hQ3, hQ4⟩ := h k v y h2
    have hPQ : ∀ j ∈ P, j ∉ Q := fun j hj hj2 => by
      obtain ⟨hjk, a, b, ha, hb, hab⟩ := hP2 j hj
      obtain ⟨_, a', b', ha', hb', hab'⟩ := hQ2 j hj2
      obtain ⟨z0, hz0, hzl⟩ := hT j hjk u v a b' ha hb'
      obtain ⟨c0, hc0, hcl⟩ := hT j hjk k k a' b ha' hb
      rw [hc] at hc0; cases hc0
      have := h3 z0 hz0
      omega
    refine ⟨P ++ k :: Q, ?_, fun j hj => ?_, ?_, ?_⟩
    · refine List.nodup_append.2 ⟨hP1, List.nodup_cons.2 ⟨fun hk => ?_, hQ1⟩, fun a ha b hb e => ?_⟩
      · have := (hQ2 k hk).1; omega
      · subst e
        rcases List.mem_cons.1 hb with e | hb
        · have := (hP2 a ha).1; omega
        · exact hPQ a ha hb
    · rcases List.mem_append.1 hj with hj | hj
      · obtain ⟨hjk, a, b, ha, hb, hab⟩ := hP2 j hj
        obtain ⟨a', ha', hal⟩ := fy_old (k := k) ha
        obtain ⟨b', hb', hbl⟩ := fy_via hb h2
        exact ⟨by omega, a', b', ha', hb', by omega⟩
      · rcases List.mem_cons.1 hj with rfl | hj
        · obtain ⟨a', ha', hal⟩ := fy_old (k := j) h1
          obtain ⟨b', hb', hbl⟩ := fy_old (k := j) h2
          exact ⟨by omega, a', b', ha', hb', by omega⟩
        · obtain ⟨hjk, a, b, ha, hb, hab⟩ := hQ2 j hj
          obtain ⟨a', ha', hal⟩ := fy_via h1 ha
          obtain ⟨b', hb', hbl⟩ := fy_old (k := k) hb
          exact ⟨by omega, a', b', ha', hb', by omega⟩
    · rw [List.length_append, List.length_cons]; omega
    · rw [List.length_append, List.length_cons]; omega
theorem fyK_vias {n : Nat} {L : List Lk} (hok : ∀ j, j < L.length → okLk n (L.getD j noLk) = true) : ∀ k, k ≤ L.length → Vias (fyK L k) 0
  | 0, _ => fun u v z hz => by
    unfold fyK at hz
    split at hz
    · cases hz; exact ⟨[], List.nodup_nil, (fun j hj => by cases hj), by simp, by simp⟩
    · cases hz
  | k + 1, hk => fun u v z hz => by
    rcases fyLink_new hz with h1 | ⟨rfl, rfl, rfl⟩
    · obtain ⟨P, hP1, hP2, hP3⟩ := fyK_vias hok k (by omega) u v z h1
      have hP : P = [] := by
        cases P with
        | nil => rfl
        | cons j P => have := (hP2 j List.mem_cons_self).1; omega
      subst hP
      exact ⟨[], hP1, (fun j hj => by cases hj), hP3⟩
    · obtain ⟨_, _, _, _, _, m0, m1⟩ := okLk_spec (hok k (by omega))
      exact ⟨[], List.nodup_nil, (fun j hj => by cases hj), by simpa using m0, by simpa using m1⟩
theorem fyR_vias {n : Nat} {L : List Lk} (hok : ∀ j, j < L.length → okLk n (L.getD j noLk) = true) : ∀ k, (∀ j, j < k → ∃ z, fyR L j j j = some z ∧ 0 ≤ z) → Vias (fyR L k) k
  | 0, _ => fyK_vias hok _ (Nat.le_refl _)
  | k + 1, h => by
    obtain ⟨z, hz, h0⟩ := h k (by omega)
    exact (fyR_vias hok k (fun j hj => h j (by omega))).step (fyR_tri hok k (fun j hj => h j (by omega))) hz h0
/-- the numbers of the table are small -/
theorem fyR_small {n : Nat} (n2 : n ≤ 60) {L : List Lk} (hok : ∀ j, j < L.length → okLk n (L.getD j noLk) = true) {k : Nat} (hk : k ≤ n) (h : ∀ j, j < k → ∃ z, fyR L j j j = some z ∧ 0 ≤ z) {u v : Nat} {z : Int} (hz : fyR L k u v = some z) : -274719577269600256 ≤ z ∧ z ≤ 274719577269600256 := by
  obtain ⟨P, hP1, hP2, hP3, hP4⟩ := fyR_vias hok k h u v z hz
  have := nodup_len k P hP1 (fun j hj => (hP2 j hj).1)
  omega
/-- no diagonal falls below 0 exactly when there is a solution -/
theorem fyR_ok {n : Nat} {L : List Lk} (hok : ∀ j, j < L.length → okLk n (L.getD j noLk) = true) : (∀ j u, j ≤ n → u < n → fyR L j u u = some 0) ↔ ∃ σ, Sol L [] σ := by
  constructor
  · intro hd
    obtain ⟨ξ, hξ⟩ := fy_sol (fyR_tri hok n (fun j hj => ⟨0, hd j j (by omega) hj, Int.le_refl _⟩)) (fun u hu => by rw [hd n u (Nat.le_refl _) hu]; rfl)
    refine ⟨fun i => - ξ i, fun t l hl => ?_⟩
    obtain ⟨i, hi, e, ht⟩ := mem_linksInto hl
    have h9 := hok i hi
    obtain ⟨z, hz, hzl⟩ := fyR_has L n i hi
    rw [← e] at h9 hz hzl
    obtain ⟨f0, f1, t0, t1, _⟩ := okLk_spec h9
    have e2 : l.t.toNat = t := by omega
    rw [e2] at hz
    have := hξ l.f.toNat t z (by omega) (by omega) hz
    show - ξ l.f.toNat ≤ - ξ t + l.m
    omega
  · intro hσ j u _ _
    obtain ⟨z, hz, hzl⟩ := fyR_diag hok u j
    by_cases h0 : z < 0
    · exact absurd hσ (fyR_bad hok hz h0)
    · rw [hz, show z = 0 by omega]
end Ch
