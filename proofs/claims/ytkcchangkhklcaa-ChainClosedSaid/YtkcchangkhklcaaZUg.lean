/- Package chain, mirrored: two links more that fix a difference: there is a solution exactly if it lies between its bounds. -/
import Derived.Test.YtkcchangkhklcaaZUf
import Derived.Test.YtkcchangkhklcaaZ06
set_option linter.unusedSimpArgs false
set_option linter.unusedVariables false
namespace Ch

theorem bad_all {n : Int} : ∀ {L : List Lk} {k : Nat}, (∀ l ∈ L, okLk n l = true) → bad n L k = none
  | [], _, _ => rfl
  | l :: r, k, h => by
    rw [bad, if_pos (h l List.mem_cons_self)]
    exact bad_all fun x hx => h x (List.mem_cons_of_mem _ hx)
theorem check_of {n : Int} {L : List Lk} (h1 : 1 ≤ n) (h2 : n ≤ 60) (h3 : L.length ≤ 300) (h : ∀ l ∈ L, okLk n l = true) : (check n L).1 = 0 := by
  rw [check_mid (by omega) (by omega) (by omega), bad_all h]
theorem lk_mem {L : List Lk} {l : Lk} (h : l ∈ L) : ∃ k, k < L.length ∧ L.getD k noLk = l := by
  obtain ⟨k, hk, e⟩ := List.mem_iff_getElem.1 h
  exact ⟨k, hk, by rw [List.getD, List.getElem?_eq_getElem hk, e]; rfl⟩
theorem getD_left {L M : List Lk} {i : Nat} (h : i < L.length) : (L ++ M).getD i noLk = L.getD i noLk := by
  rw [List.getD, List.getD, List.getElem?_append_left h]
theorem getD_right {L M : List Lk} {i : Nat} : (L ++ M).getD (L.length + i) noLk = M.getD i noLk := by
  rw [List.getD, List.getD, List.getElem?_append_right (by omega), Nat.add_sub_cancel_left]
theorem sol_left {L M : List Lk} {σ : Nat → Int} (h : Sol (L ++ M) [] σ) : Sol L [] σ := fun v l hl => by
  obtain ⟨i, hi, _, rfl, ht⟩ := mem_links_inv hl
  have h1 : (L ++ M).getD i noLk ∈ linksInto (L ++ M) [] ((L ++ M).getD i noLk).t.toNat := mem_links (by rw [List.length_append]; omega) rfl (by rw [getD_left hi, ht]; omega)
  rw [getD_left hi, ht] at h1
  exact h v _ h1
/-- the two links that fix the difference -/
def two (u v z : Int) : List Lk := [⟨u, v, z⟩, ⟨v, u, -z⟩]

theorem two_check {n : Int} {L : List Lk} {u v z : Int} (hc : (check n L).1 = 0) (hl : L.length ≤ 298) (hu : 0 ≤ u ∧ u < n) (hv : 0 ≤ v ∧ v < n) (huv : u ≠ v) (hz : -4503599627370496 ≤ z ∧ z ≤ 4503599627370496) : (check n (L ++ two u v z)).1 = 0 := by
  obtain ⟨n1, n2, _, hok⟩ := check_ok hc
  refine check_of n1 n2 (by rw [List.length_append]; show L.length + 2 ≤ 300; omega) fun l hl => ?_
  rcases List.mem_append.1 hl with h | h
  · obtain ⟨k, hk, rfl⟩ := lk_mem h
    exact hok k hk
  · have h : l = ⟨u, v, z⟩ ∨ l = ⟨v, u, -z⟩ := by
      unfold two at h
      simpa using h
    rcases h with rfl | rfl
    · unfold okLk isIx top
      simp
      omega
    · unfold okLk isIx top
      simp
      omega
theorem two_with {n : Int} {L : List Lk} {u v z : Int} (hc : (check n L).1 = 0) (hl : L.length ≤ 298) (hu : 0 ≤ u ∧ u < n) (hv : 0 ≤ v ∧ v < n) (huv : u ≠ v) (hz : -4503599627370496 ≤ z ∧ z ≤ 4503599627370496) : withE n L (two u v z) = 0 := by
  unfold withE
  rw [if_neg (by omega), if_neg (by show ¬ (300 : Int) - L.length < ((2 : Nat) : Int); omega)]
  exact two_check hc hl hu hv huv hz

/-- a solution with the two links fixes the difference -/
theorem two_diff {L : List Lk} {u v z : Int} {σ : Nat → Int} (hu : 0 ≤ u) (hv : 0 ≤ v) (h : Sol (L ++ two u v z) [] σ) : σ u.toNat - σ v.toNat = z := by
  have a0 : (L ++ two u v z).getD (L.length + 0) noLk = ⟨u, v, z⟩ := getD_right
  have a1 : (L ++ two u v z).getD (L.length + 1) noLk = ⟨v, u, -z⟩ := getD_right
  have m0 : (L ++ two u v z).getD (L.length + 0) noLk ∈ linksInto (L ++ two u v z) [] ((L ++ two u v z).getD (L.length + 0) noLk).t.toNat := mem_links (by rw [List.length_append]; show _ < L.length + 2; omega) rfl (by rw [a0]; exact hv)
  have m1 : (L ++ two u v z).getD (L.length + 1) noLk ∈ linksInto (L ++ two u v z) [] ((L ++ two u v z).getD (L.length + 1) noLk).t.toNat := mem_links (by rw [List.length_append]; show _ < L.length + 2; omega) rfl (by rw [a1]; exact hu)
  rw [a0] at m0
  rw [a1] at m1
  have h0 : σ u.toNat ≤ σ v.toNat + z := h _ _ m0
  have h1 : σ v.toNat ≤ σ u.toNat + -z := h _ _ m1
  omega
theorem two_sol {L : List Lk} {u v z : Int} {σ : Nat → Int} (h : Sol L [] σ) (hd : σ u.toNat - σ v.toNat = z) : Sol (L ++ two u v z) [] σ := fun t l hl => by
  obtain ⟨i, hi, _, rfl, ht⟩ := mem_links_inv hl
  by_cases hiL : i < L.length
  · rw [getD_left hiL] at ht ⊢
    have h1 := mem_links (L := L) (drop := []) hiL rfl (by rw [ht]; omega)
    rw [ht] at h1
    exact h t _ h1
  · obtain ⟨j, rfl⟩ : ∃ j, i = L.length + j := ⟨i - L.length, by omega⟩
    rw [getD_right] at ht ⊢
    have hj : j < 2 := by rw [List.length_append] at hi; have : (two u v z).length = 2 := rfl; omega
    match j, hj with
    | 0, _ =>
      have ht : v = (t : Int) := ht
      show σ u.toNat ≤ σ t + z
      have e : v.toNat = t := by omega
      rw [e] at hd
      omega
    | 1, _ =>
      have ht : u = (t : Int) := ht
      show σ v.toNat ≤ σ t + -z
      have e : u.toNat = t := by omega
      rw [e] at hd
      omega

theorem between_iff {n : Int} {L : List Lk} {k k2 : Nat} {u v z hi bk : Int} (hE : EN n L k) (hE2 : EN n (L ++ two u v z) k2) (h1 : bound n L k u v = (hi, 0)) (h2 : bound n L k v u = (bk, 0)) (hl : L.length ≤ 298) (huv : u ≠ v) (hz : -4503599627370496 ≤ z ∧ z ≤ 4503599627370496) :
    (cons n.toNat (L ++ two u v z) [] k2 = true ↔ z ≤ hi ∧ -bk ≤ z) := by
  obtain ⟨o1, o2, o3⟩ := bound_some (n := n) (L := L) (k := k) (u := u) (v := v) (by rw [h1])
  obtain ⟨q1, q2, q3⟩ := bound_some (n := n) (L := L) (k := k) (u := v) (v := u) (by rw [h2])
  obtain ⟨hc, hu, hv, hB, hV⟩ := opn_at hE o1
  obtain ⟨_, _, _, hB2, _⟩ := opn_at hE q1
  rw [h1] at o3
  rw [h2] at q3
  have hc2 := two_check hc hl hu hv huv hz
  rw [hE2.sol hc2]
  constructor
  · rintro ⟨σ, hσ⟩
    have hd := two_diff hu.1 hv.1 hσ
    have g1 := (hB.sol σ (sol_left hσ) u.toNat (by omega)).resolve_left o2
    have g2 := (hB2.sol σ (sol_left hσ) v.toNat (by omega)).resolve_left q2
    simp only at o3 q3
    omega
  · rintro ⟨z1, z2⟩
    have r1 := reach_ok hc hB hV (u := u.toNat) (v := v.toNat) (by omega) (by omega) o2
    have r2 := reach_ok hc hB2 hV (u := v.toNat) (v := u.toNat) (by omega) (by omega) q2
    simp only at o3 q3
    generalize reachF (bt n.toNat L [] k v.toNat) (lvs n.toNat L k) u.toNat v.toNat = Y1 at r1
    generalize reachF (bt n.toNat L [] k u.toNat) (lvs n.toNat L k) v.toNat u.toNat = Y2 at r2
    have s1 := sol_of_solves (drop := []) (fits_sol r1.1).2.2.2.1
    have s2 := sol_of_solves (drop := []) (fits_sol r2.1).2.2.2.1
    have d1 := r1.2
    have d2 := r2.2
    rw [← o3] at d1
    rw [← q3] at d2
    refine ⟨fun i => min (Y1.getD v.toNat 0 - Y1.getD i 0) (Y2.getD v.toNat 0 - Y2.getD i 0 + (z + bk)), two_sol (fun t l hl => ?_) ?_⟩
    · have g1 := s1 t l hl
      have g2 := s2 t l hl
      simp only at g1 g2 ⊢
      omega
    · show min (Y1.getD v.toNat 0 - Y1.getD u.toNat 0) (Y2.getD v.toNat 0 - Y2.getD u.toNat 0 + (z + bk)) - min (Y1.getD v.toNat 0 - Y1.getD v.toNat 0) (Y2.getD v.toNat 0 - Y2.getD v.toNat 0 + (z + bk)) = z
      omega
theorem between_bound {n : Int} {L : List Lk} {k2 : Nat} {u v z : Int} (hE2 : EN n (L ++ two u v z) k2) (hc2 : (check n (L ++ two u v z)).1 = 0) (hu : 0 ≤ u ∧ u < n) (hv : 0 ≤ v ∧ v < n) (hk : cons n.toNat (L ++ two u v z) [] k2 = true) : bound n (L ++ two u v z) k2 u v = (z, 0) := by
  have h1 : opn n (L ++ two u v z) [u, v] k2 = 0 := by
    unfold opn openE
    rw [if_neg (by omega), if_pos (by simp [isIx]; omega), hk]
    rfl
  obtain ⟨_, _, _, hB, _⟩ := opn_at hE2 h1
  obtain ⟨σ, hσ⟩ := hE2.cons hc2 hk
  have hd := two_diff hu.1 hv.1 hσ
  have a0 : (L ++ two u v z).getD (L.length + 0) noLk = ⟨u, v, z⟩ := getD_right
  have hw := way_one (L := L ++ two u v z) (drop := []) (i := L.length + 0) (by rw [List.length_append]; show _ < L.length + 2; omega) rfl
  rw [a0] at hw
  have hw : way (L ++ two u v z) [] u [L.length + 0] ((v.toNat : Nat) : Int) z := by rw [show ((v.toNat : Nat) : Int) = v by omega]; exact hw
  obtain ⟨g1, g2⟩ := hB.up hw
  have g3 := (hB.sol σ hσ u.toNat (by omega)).resolve_left g2
  unfold bound
  rw [if_neg (by omega), if_neg g2]
  congr 1
  omega
theorem fits_left {n : Int} {L M : List Lk} {x : List Int} (hc : (check n L).1 = 0) (h : fits n (L ++ M) x = (true, 0)) : fits n L x = (true, 0) := by
  obtain ⟨_, h1, h2, h3, h4⟩ := fits_sol h
  refine fits_of hc h1 h2 (solves_ix.2 fun j hj => ?_) h4
  have := solves_ix.1 h3 j (by rw [List.length_append]; omega)
  rwa [getD_left hj] at this
end Ch
