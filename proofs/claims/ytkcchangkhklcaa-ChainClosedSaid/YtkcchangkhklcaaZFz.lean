/- Package chain, mirrored: settle's bounds are those of a table without shorter ways. -/
import Derived.Test.YtkcchangkhklcaaZTh
import Derived.Test.YtkcchangkhklcaaZFy
set_option linter.unusedSimpArgs false
set_option linter.unusedVariables false
namespace Ch

theorem upper (g : Nat → Int) : ∀ n : Nat, ∃ B, ∀ i, i < n → g i ≤ B
  | 0 => ⟨0, fun i hi => by omega⟩
  | n + 1 => by
    obtain ⟨B, hB⟩ := upper g n
    by_cases h : g n ≤ B
    · exact ⟨B, fun i hi => by
        by_cases e : i = n
        · rw [e]; exact h
        · exact hB i (by omega)⟩
    · exact ⟨g n, fun i hi => by
        by_cases e : i = n
        · rw [e]; exact Int.le_refl _
        · have := hB i (by omega); omega⟩

/-- a table's bounds come from ways over the links -/
def Ways (L : List Lk) (drop : List Bool) (D : Nat → Nat → Option Int) : Prop :=
  ∀ (R : Nat → Prop) (τ : Nat → Int), (∀ t, R t → ∀ l ∈ linksInto L drop t, R l.f.toNat ∧ τ l.f.toNat ≤ τ t + l.m) → ∀ u v z, D u v = some z → R v → R u ∧ τ u ≤ τ v + z
theorem Ways.step {L : List Lk} {drop : List Bool} {D : Nat → Nat → Option Int} (h : Ways L drop D) (k : Nat) : Ways L drop (fyStep D k) := fun R τ hR u v z hz hv => by
  rcases fy_new hz with h1 | ⟨x, y, h1, h2, rfl⟩
  · exact h R τ hR u v z h1 hv
  · obtain ⟨h3, h4⟩ := h R τ hR k v y h2 hv
    obtain ⟨h5, h6⟩ := h R τ hR u k x h1 h3
    exact ⟨h5, by omega⟩

theorem bt_fy {n : Nat} (n1 : 1 ≤ n) (n2 : n ≤ 60) {L : List Lk} {drop : List Bool} (hok : ∀ j, j < L.length → okLk n (L.getD j noLk) = true) {k v : Nat} (hv : v < n) {s : List Int} (h : boundsTo n L drop k v = some (some s))
    {D : Nat → Nat → Option Int} (hT : Tri D n) (hd : ∀ u, u < n → D u u = some 0) (hl : ∀ t, ∀ l ∈ linksInto L drop t, ∃ z, D l.f.toNat t = some z ∧ z ≤ l.m) (hp : Ways L drop D) :
    ∀ i, i < n → s.getD i 0 = (D i v).getD free := by
  have hlt : ∀ t, ∀ l ∈ linksInto L drop t, t < n ∧ l.f.toNat < n ∧ -4503599627370496 ≤ l.m ∧ l.m ≤ 4503599627370496 := fun t l hl2 => by
    obtain ⟨i, hi, e, ht⟩ := mem_linksInto hl2
    have h9 := hok i hi
    rw [← e] at h9
    obtain ⟨f0, f1, t0, t1, _, m0, m1⟩ := okLk_spec h9
    exact ⟨by omega, by omega, m0, m1⟩
  obtain ⟨hs1, hs2⟩ := boundsTo_spec n1 n2 hok h
  have hs3 : s.getD v 0 ≤ 0 := by
    have h3 := (settleGo_finds hok ((begin_to n v).wf n1 n2) ((begin_to n v).rx n2 L drop) h).2.1 v hv
    have h4 : (settle0 ((unbound n).set v 0)).s.getD v 0 = 0 := by
      show ((unbound n).set v 0).getD v 0 = 0
      exact set_same (by unfold unbound; rw [List.length_replicate]; exact hv)
    rw [h4] at h3; exact h3
  obtain ⟨ξ, hξ⟩ := fy_sol hT (fun u hu => by rw [hd u hu]; rfl)
  have hη : Sol L drop (fun i => - ξ i) := fun t l hl2 => by
    obtain ⟨z, hz, hzl⟩ := hl t l hl2
    obtain ⟨h3, h4, _⟩ := hlt t l hl2
    have := hξ l.f.toNat t z h4 h3 hz
    show - ξ l.f.toNat ≤ - ξ t + l.m
    omega
  obtain ⟨B1, hB1⟩ := upper (fun i => (D i v).getD 0) n
  obtain ⟨B2, hB2⟩ := upper ξ n
  have hσ : ∀ M, B1 + B2 + 4503599627370496 ≤ M → Sol L drop (fun i => (D i v).getD (M - ξ i)) := fun M hM t l hl2 => by
    obtain ⟨z, hz, hzl⟩ := hl t l hl2
    obtain ⟨h3, h4, h5, _⟩ := hlt t l hl2
    show (D l.f.toNat v).getD (M - ξ l.f.toNat) ≤ (D t v).getD (M - ξ t) + l.m
    cases ht : D t v with
    | some b =>
      obtain ⟨c, hc, hcl⟩ := hT t h3 _ _ z b hz ht
      rw [hc]
      show c ≤ b + l.m
      omega
    | none =>
      show (D l.f.toNat v).getD (M - ξ l.f.toNat) ≤ M - ξ t + l.m
      have h7 := hB2 t h3
      cases hf : D l.f.toNat v with
      | some c =>
        have h6 := hB1 _ h4
        simp only [hf, Option.getD_some] at h6 ⊢
        omega
      | none =>
        have h8 := hξ l.f.toNat t z h4 h3 hz
        show M - ξ l.f.toNat ≤ M - ξ t + l.m
        omega
  have hR : ∀ t, (t < n ∧ s.getD t 0 ≠ free) → ∀ l ∈ linksInto L drop t, (l.f.toNat < n ∧ s.getD l.f.toNat 0 ≠ free) ∧ s.getD l.f.toNat 0 ≤ s.getD t 0 + l.m := fun t ⟨ht, htf⟩ l hl2 => by
    obtain ⟨_, h4, h5, h6⟩ := hlt t l hl2
    have h7 := (hs1 t ht).resolve_left htf l hl2
    have h8 := ((hs2 _ hη t ht).resolve_left htf).1
    exact ⟨⟨h4, by unfold free; omega⟩, h7⟩
  intro i hi
  cases hD : D i v with
  | some a =>
    obtain ⟨⟨_, h3⟩, h4⟩ := hp (fun t => t < n ∧ s.getD t 0 ≠ free) (fun t => s.getD t 0) hR i v a hD ⟨hv, by unfold free; omega⟩
    have h5 := ((hs2 _ (hσ _ (Int.le_refl _)) i hi).resolve_left h3).2
    simp only [hD, hd v hv, Option.getD_some] at h5
    show s.getD i 0 = a
    have h4' : s.getD i 0 ≤ s.getD v 0 + a := h4
    omega
  | none =>
    show s.getD i 0 = free
    by_cases hf : s.getD i 0 = free
    · exact hf
    · have hb := hB2 i hi
      have h5 := (hs2 _ (hσ (B1 + B2 + 4503599627370496 + (265712378014859264 + B2 + 1) + (if 0 ≤ B1 + B2 then 0 else -(B1 + B2)) + (if 0 ≤ B2 then 0 else - B2)) (by split <;> split <;> omega)) i hi).resolve_left hf
      obtain ⟨h6, h7⟩ := h5
      simp only [hD, hd v hv, Option.getD_some, Option.getD_none] at h7
      revert h7
      split <;> split <;> intro h7 <;> omega
end Ch
