/- The specification's table, plain: its numbers stay small as long as no diagonal is below 0. -/
import Derived.Test.YtkcchangkhklcaaZFx
set_option linter.unusedSimpArgs false
set_option linter.unusedVariables false
namespace Ch

theorem fy_new2 {D : Nat → Nat → Option Int} {k u v : Nat} {z : Int} (h : fyStep D k u v = some z) : D u v = some z ∨ ∃ x y, D u k = some x ∧ D k v = some y ∧ z = x + y ∧ ∀ z0, D u v = some z0 → x + y < z0 := by
  unfold fyStep at h
  split at h
  · rename_i x y h1 h2
    split at h
    · rename_i w h3
      by_cases hc : w ≤ x + y
      · rw [Int.min_eq_left hc] at h; exact .inl (h3.trans h)
      · rw [Int.min_eq_right (by omega)] at h
        refine .inr ⟨x, y, h1, h2, (Option.some.inj h).symm, fun z0 hz0 => ?_⟩
        rw [h3] at hz0; cases hz0; omega
    · rename_i h3
      refine .inr ⟨x, y, h1, h2, (Option.some.inj h).symm, fun z0 hz0 => ?_⟩
      rw [h3] at hz0; cases hz0
  · exact .inl h
/-- a bound is a way over different nodes below k -/
def Via (D : Nat → Nat → Option Int) (k u v : Nat) (z : Int) (P : List Nat) : Prop :=
  P.Nodup ∧ (∀ j ∈ P, j < k ∧ ∃ a b, D u j = some a ∧ D j v = some b ∧ a + b ≤ z) ∧ -4503599627370496 * ((P.length : Int) + 1) ≤ z ∧ z ≤ 4503599627370496 * ((P.length : Int) + 1)
def Vias (D : Nat → Nat → Option Int) (k : Nat) : Prop := ∀ u v z, D u v = some z → ∃ P, Via D k u v z P
theorem Vias.step {D : Nat → Nat → Option Int} {k : Nat} (h : Vias D k) (hT : Tri D k) {c : Int} (hc : D k k = some c) (h0 : 0 ≤ c) : Vias (fyStep D k) (k + 1) := by
  intro u v z hz
  rcases fy_new2 hz with h1 | ⟨x, y, h1, h2, rfl, h3⟩
  · obtain ⟨P, hP1, hP2, hP3⟩ := h u v z h1
    refine ⟨P, hP1, fun j hj => ?_, hP3⟩
    obtain ⟨hjk, a, b, ha, hb, hab⟩ := hP2 j hj
    obtain ⟨a', ha', hal⟩ := fy_old (k := k) ha
    obtain ⟨b', hb', hbl⟩ := fy_old (k := k) hb
    exact ⟨by omega, a', b', ha', hb', by omega⟩
  · obtain ⟨P, hP1, hP2, hP3, hP4⟩ := h u k x h1
    obtain ⟨Q, hQ1, hQ2, hQ3, hQ4⟩ := h k v y h2
    have hPQ : ∀ j ∈ P, j ∉ Q := fun j hj hj2 => by
      obtain ⟨hjk, a, b, ha, hb, hab⟩ := hP2 j hj
      obtain ⟨_, a', b', ha', hb', hab'⟩ := hQ2 j hj2
      obtain ⟨z0, hz0, hzl⟩ := hT j hjk u v a b' ha hb'
      obtain ⟨c0, hc0, hcl⟩ := hT j hjk k k a' b ha' hb
      rw [hc] at hc0; cases hc0
      have := h3 z0 hz0
      omega
    refine ⟨P ++ k :: Q, ?_, fun j hj => ?_, ?_, ?_⟩
    · refine List.nodup_append.2 ⟨hP1, List.nodup_cons.2 ⟨fun hk => ?_, hQ1⟩, fun a ha b hb e => ?_⟩
      · have := (hQ2 k hk).1; omega
      · subst e
        rcases List.mem_cons.1 hb with e | hb
        · have := (hP2 a ha).1; omega
        · exact hPQ a ha hb
    · rcases List.mem_append.1 hj with hj | hj
      · obtain ⟨hjk, a, b, ha, hb, hab⟩ := hP2 j hj
        obtain ⟨a', ha', hal⟩ := fy_old (k := k) ha
        obtain ⟨b', hb', hbl⟩ := fy_via hb h2
        exact ⟨by omega, a', b', ha', hb', by omega⟩
      · rcases List.mem_cons.1 hj with rfl | hj
        · obtain ⟨a', ha', hal⟩ := fy_old (k := j) h1
          obtain ⟨b', hb', hbl⟩ := fy_old (k := j) h2
          exact ⟨by omega, a', b', ha', hb', by omega⟩
        · obtain ⟨hjk, a, b, ha, hb, hab⟩ := hQ2 j hj
          obtain ⟨a', ha', hal⟩ := fy_via h1 ha
          obtain ⟨b', hb', hbl⟩ := fy_old (k := k) hb
          exact ⟨by omega, a', b', ha', hb', by omega⟩
    · rw [List.length_append, List.length_cons]; omega
    · rw [List.length_append, List.length_cons]; omega
theorem fyK_vias {n : Nat} {L : List Lk} (hok : ∀ j, j < L.length → okLk n (L.getD j noLk) = true) : ∀ k, k ≤ L.length → Vias (fyK L k) 0
  | 0, _ => fun u v z hz => by
    unfold fyK at hz
    split at hz
    · cases hz; exact ⟨[], List.nodup_nil, (fun j hj => by cases hj), by simp, by simp⟩
    · cases hz
  | k + 1, hk => fun u v z hz => by
    rcases fyLink_new hz with h1 | ⟨rfl, rfl, rfl⟩
    · obtain ⟨P, hP1, hP2, hP3⟩ := fyK_vias hok k (by omega) u v z h1
      have hP : P = [] := by
        cases P with
        | nil => rfl
        | cons j P => have := (hP2 j List.mem_cons_self).1; omega
      subst hP
      exact ⟨[], hP1, (fun j hj => by cases hj), hP3⟩
    · obtain ⟨_, _, _, _, _, m0, m1⟩ := okLk_spec (hok k (by omega))
      exact ⟨[], List.nodup_nil, (fun j hj => by cases hj), by simpa using m0, by simpa using m1⟩
theorem fyR_vias {n : Nat} {L : List Lk} (hok : ∀ j, j < L.length → okLk n (L.getD j noLk) = true) : ∀ k, (∀ j, j < k → ∃ z, fyR L j j j = some z ∧ 0 ≤ z) → Vias (fyR L k) k
  | 0, _ => fyK_vias hok _ (Nat.le_refl _)
  | k + 1, h => by
    obtain ⟨z, hz, h0⟩ := h k (by omega)
    exact (fyR_vias hok k (fun j hj => h j (by omega))).step (fyR_tri hok k (fun j hj => h j (by omega))) hz h0
/-- the numbers of the table are small -/
theorem fyR_small {n : Nat} (n2 : n ≤ 60) {L : List Lk} (hok : ∀ j, j < L.length → okLk n (L.getD j noLk) = true) {k : Nat} (hk : k ≤ n) (h : ∀ j, j < k → ∃ z, fyR L j j j = some z ∧ 0 ≤ z) {u v : Nat} {z : Int} (hz : fyR L k u v = some z) : -274719577269600256 ≤ z ∧ z ≤ 274719577269600256 := by
  obtain ⟨P, hP1, hP2, hP3, hP4⟩ := fyR_vias hok k h u v z hz
  have := nodup_len k P hP1 (fun j hj => (hP2 j hj).1)
  omega
/-- no diagonal falls below 0 exactly when there is a solution -/
theorem fyR_ok {n : Nat} {L : List Lk} (hok : ∀ j, j < L.length → okLk n (L.getD j noLk) = true) : (∀ j u, j ≤ n → u < n → fyR L j u u = some 0) ↔ ∃ σ, Sol L [] σ := by
  constructor
  · intro hd
    obtain ⟨ξ, hξ⟩ := fy_sol (fyR_tri hok n (fun j hj => ⟨0, hd j j (by omega) hj, Int.le_refl _⟩)) (fun u hu => by rw [hd n u (Nat.le_refl _) hu]; rfl)
    refine ⟨fun i => - ξ i, fun t l hl => ?_⟩
    obtain ⟨i, hi, e, ht⟩ := mem_linksInto hl
    have h9 := hok i hi
    obtain ⟨z, hz, hzl⟩ := fyR_has L n i hi
    rw [← e] at h9 hz hzl
    obtain ⟨f0, f1, t0, t1, _⟩ := okLk_spec h9
    have e2 : l.t.toNat = t := by omega
    rw [e2] at hz
    have := hξ l.f.toNat t z (by omega) (by omega) hz
    show - ξ l.f.toNat ≤ - ξ t + l.m
    omega
  · intro hσ j u _ _
    obtain ⟨z, hz, hzl⟩ := fyR_diag hok u j
    by_cases h0 : z < 0
    · exact absurd hσ (fyR_bad hok hz h0)
    · rw [hz, show z = 0 by omega]
end Ch
