/- The specification's table of tightest bounds, its plain side: rounds over a table of known bounds (none: not bounded). -/
import Derived.Test.YtkcchangkhklcaaZ06
set_option linter.unusedSimpArgs false
set_option linter.unusedVariables false
namespace Ch

def fyStep (D : Nat → Nat → Option Int) (k u v : Nat) : Option Int :=
  match D u k, D k v with
  | some x, some y => match D u v with
    | some z => some (min z (x + y))
    | none => some (x + y)
  | _, _ => D u v
theorem fy_via {D : Nat → Nat → Option Int} {k u v : Nat} {x y : Int} (h1 : D u k = some x) (h2 : D k v = some y) : ∃ z, fyStep D k u v = some z ∧ z ≤ x + y := by
  unfold fyStep
  rw [h1, h2]
  cases D u v with
  | none => exact ⟨_, rfl, Int.le_refl _⟩
  | some z => exact ⟨_, rfl, Int.min_le_right _ _⟩
theorem fy_old {D : Nat → Nat → Option Int} {k u v : Nat} {z : Int} (h : D u v = some z) : ∃ z', fyStep D k u v = some z' ∧ z' ≤ z := by
  unfold fyStep
  split
  · rw [h]; exact ⟨_, rfl, Int.min_le_left _ _⟩
  · exact ⟨z, h, Int.le_refl _⟩
theorem fy_new {D : Nat → Nat → Option Int} {k u v : Nat} {z : Int} (h : fyStep D k u v = some z) : D u v = some z ∨ ∃ x y, D u k = some x ∧ D k v = some y ∧ z = x + y := by
  unfold fyStep at h
  split at h
  · rename_i x y h1 h2
    split at h
    · rename_i w h3
      by_cases hc : w ≤ x + y
      · rw [Int.min_eq_left hc] at h; exact .inl (h3.trans h)
      · rw [Int.min_eq_right (by omega)] at h; exact .inr ⟨x, y, h1, h2, (Option.some.inj h).symm⟩
    · exact .inr ⟨x, y, h1, h2, (Option.some.inj h).symm⟩
  · exact .inl h

/-- over the first k nodes there is no shorter way -/
def Tri (D : Nat → Nat → Option Int) (k : Nat) : Prop := ∀ j, j < k → ∀ u v x y, D u j = some x → D j v = some y → ∃ z, D u v = some z ∧ z ≤ x + y
theorem Tri.step {D : Nat → Nat → Option Int} {k : Nat} (h : Tri D k) {c : Int} (hc : D k k = some c) (h0 : 0 ≤ c) : Tri (fyStep D k) (k + 1) := by
  have hrow : ∀ v y, fyStep D k k v = some y → ∃ y', D k v = some y' ∧ y' ≤ y := fun v y hy => by
    rcases fy_new hy with h1 | ⟨a, b, h1, h2, rfl⟩
    · exact ⟨y, h1, Int.le_refl _⟩
    · rw [hc] at h1; cases h1; exact ⟨b, h2, by omega⟩
  have hcol : ∀ u x, fyStep D k u k = some x → ∃ x', D u k = some x' ∧ x' ≤ x := fun u x hx => by
    rcases fy_new hx with h1 | ⟨a, b, h1, h2, rfl⟩
    · exact ⟨x, h1, Int.le_refl _⟩
    · rw [hc] at h2; cases h2; exact ⟨a, h1, by omega⟩
  intro j hj u v x y hx hy
  by_cases e : j = k
  · subst e
    obtain ⟨x', hx', hxl⟩ := hcol u x hx
    obtain ⟨y', hy', hyl⟩ := hrow v y hy
    obtain ⟨z, hz, hzl⟩ := fy_via hx' hy'
    exact ⟨z, hz, by omega⟩
  · have hj' : j < k := by omega
    rcases fy_new hx with h1 | ⟨a, b, h1, h2, rfl⟩
    · rcases fy_new hy with h3 | ⟨a', b', h3, h4, rfl⟩
      · obtain ⟨z, hz, hzl⟩ := h j hj' u v x y h1 h3
        obtain ⟨z', hz', hzl'⟩ := fy_old (k := k) hz
        exact ⟨z', hz', by omega⟩
      · obtain ⟨z, hz, hzl⟩ := h j hj' u k x a' h1 h3
        obtain ⟨z', hz', hzl'⟩ := fy_via hz h4
        exact ⟨z', hz', by omega⟩
    · rcases fy_new hy with h3 | ⟨a', b', h3, h4, rfl⟩
      · obtain ⟨z, hz, hzl⟩ := h j hj' k v b y h2 h3
        obtain ⟨z', hz', hzl'⟩ := fy_via h1 hz
        exact ⟨z', hz', by omega⟩
      · obtain ⟨z, hz, hzl⟩ := h j hj' k k b a' h2 h3
        rw [hc] at hz; cases hz
        obtain ⟨z', hz', hzl'⟩ := fy_via h1 h4
        exact ⟨z', hz', by omega⟩

/-- no solution goes above a bound of the table -/
def Snd (D : Nat → Nat → Option Int) (ξ : Nat → Int) : Prop := ∀ u v z, D u v = some z → ξ v ≤ ξ u + z
theorem Snd.step {D : Nat → Nat → Option Int} {ξ : Nat → Int} (h : Snd D ξ) (k : Nat) : Snd (fyStep D k) ξ := fun u v z hz => by
  rcases fy_new hz with h1 | ⟨x, y, h1, h2, rfl⟩
  · exact h u v z h1
  · have := h u k x h1
    have := h k v y h2
    omega

/-- the least of a column -/
theorem col_least (D : Nat → Nat → Option Int) (v : Nat) : ∀ n, (∃ u, u < n ∧ (D u v).isSome = true) → ∃ u a, u < n ∧ D u v = some a ∧ ∀ u' b, u' < n → D u' v = some b → a ≤ b
  | 0, ⟨u, hu, _⟩ => absurd hu (by omega)
  | n + 1, ⟨u, hu, hs⟩ => by
    by_cases hex : ∃ u, u < n ∧ (D u v).isSome = true
    · obtain ⟨w, a, hw, ha, hmin⟩ := col_least D v n hex
      cases hn : D n v with
      | none =>
        refine ⟨w, a, by omega, ha, fun u' b hu' hb => ?_⟩
        by_cases e : u' = n
        · subst e; rw [hn] at hb; cases hb
        · exact hmin u' b (by omega) hb
      | some c =>
        by_cases hca : c ≤ a
        · refine ⟨n, c, by omega, hn, fun u' b hu' hb => ?_⟩
          by_cases e : u' = n
          · subst e; rw [hn] at hb; cases hb; exact Int.le_refl _
          · have := hmin u' b (by omega) hb; omega
        · refine ⟨w, a, by omega, ha, fun u' b hu' hb => ?_⟩
          by_cases e : u' = n
          · subst e; rw [hn] at hb; cases hb; omega
          · exact hmin u' b (by omega) hb
    · have e : u = n := by
        by_cases e : u < n
        · exact absurd ⟨u, e, hs⟩ hex
        · omega
      subst e
      obtain ⟨a, ha⟩ := Option.isSome_iff_exists.1 hs
      refine ⟨u, a, by omega, ha, fun u' b hu' hb => ?_⟩
      by_cases e : u' = u
      · subst e; rw [ha] at hb; cases hb; exact Int.le_refl _
      · exact absurd ⟨u', by omega, by rw [hb]; rfl⟩ hex
/-- a table without shorter ways has a solution -/
theorem fy_sol {D : Nat → Nat → Option Int} {n : Nat} (h : Tri D n) (hd : ∀ u, u < n → (D u u).isSome = true) : ∃ ξ : Nat → Int, ∀ f t z, f < n → t < n → D f t = some z → ξ t ≤ ξ f + z := by
  have hex : ∀ v, ∃ a : Int, v < n → ∃ u, u < n ∧ D u v = some a ∧ ∀ u' b, u' < n → D u' v = some b → a ≤ b := fun v => by
    by_cases hv : v < n
    · obtain ⟨u, a, h1, h2, h3⟩ := col_least D v n ⟨v, hv, hd v hv⟩
      exact ⟨a, fun _ => ⟨u, h1, h2, h3⟩⟩
    · exact ⟨0, fun e => absurd e hv⟩
  refine ⟨fun v => (hex v).choose, fun f t z hf ht hz => ?_⟩
  obtain ⟨u, hu, h1, _⟩ := (hex f).choose_spec hf
  obtain ⟨_, _, _, h3⟩ := (hex t).choose_spec ht
  obtain ⟨w, hw, hwl⟩ := h f hf u t _ _ h1 hz
  exact Int.le_trans (h3 u w hu hw) hwl
end Ch
