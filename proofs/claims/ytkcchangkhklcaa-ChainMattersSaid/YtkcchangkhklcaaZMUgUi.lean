/- Several texts one behind the other. -/
import Derived.Test.YtkcchangkhklcaaZMUdUf
import Derived.Test.YtkcchangkhklcaaZ06
set_option linter.unusedSimpArgs false
set_option linter.unusedVariables false
/- Package chain, mirrored: two links more that fix a difference: there is a solution exactly if it lies between its bounds. -/
namespace Ch

theorem bad_all {n : Int} : ∀ {L : List Lk} {k : Nat}, (∀ l ∈ L, okLk n l = true) → bad n L k = none
  | [], _, _ => rfl
  | l :: r, k, h => by
    rw [bad, if_pos (h l List.mem_cons_self)]
    exact bad_all fun x hx => h x (List.mem_cons_of_mem _ hx)
theorem check_of {n : Int} {L : List Lk} (h1 : 1 ≤ n) (h2 : n ≤ 60) (h3 : L.length ≤ 300) (h : ∀ l ∈ L, okLk n l = true) : (check n L).1 = 0 := by
  rw [check_mid (by omega) (by omega) (by omega), bad_all h]
theorem lk_mem {L : List Lk} {l : Lk} (h : l ∈ L) : ∃ k, k < L.length ∧ L.getD k noLk = l := by
  obtain ⟨k, hk, e⟩ := List.mem_iff_getElem.1 h
  exact ⟨k, hk, by rw [List.getD, List.getElem?_eq_getElem hk, e]; rfl⟩
theorem getD_left {L M : List Lk} {i : Nat} (h : i < L.length) : (L ++ M).getD i noLk = L.getD i noLk := by
  rw [List.getD, List.getD, List.getElem?_append_left h]
theorem getD_right {L M : List Lk} {i : Nat} : (L ++ M).getD (L.length + i) noLk = M.getD i noLk := by
  rw [List.getD, List.getD, List.getElem?_append_right (by omega), Nat.add_sub_cancel_left]
theorem sol_left {L M : List Lk} {σ : Nat → Int} (h : Sol (L ++ M) [] σ) : Sol L [] σ := fun v l hl => by
  obtain ⟨i, hi, _, rfl, ht⟩ := mem_links_inv hl
  have h1 : (L ++ M).getD i noLk ∈ linksInto (L ++ M) [] ((L ++ M).getD i noLk).t.toNat := mem_links (by rw [List.length_append]; omega) rfl (by rw [getD_left hi, ht]; omega)
  rw [getD_left hi, ht] at h1
  exact h v _ h1
/-- the two links that fix the difference -/
def two (u v z : Int) : List Lk := [⟨u, v, z⟩, ⟨v, u, -z⟩]

theorem two_check {n : Int} {L : List Lk} {u v z : Int} (hc : (check n L).1 = 0) (hl : L.length ≤ 298) (hu : 0 ≤ u ∧ u < n) (hv : 0 ≤ v ∧ v < n) (huv : u ≠ v) (hz : -4503599627370496 ≤ z ∧ z ≤ 4503599627370496) : (check n (L ++ two u v z)).1 = 0 := by
  obtain ⟨n1, n2, _, hok⟩ := check_ok hc
  refine check_of n1 n2 (by rw [List.length_append]; show L.length + 2 ≤ 300; omega) fun l hl => ?_
  rcases List.mem_append.1 hl with h | h
  · obtain ⟨k, hk, rfl⟩ := lk_mem h
    exact hok k hk
  · have h : l = ⟨u, v, z⟩ ∨ l = ⟨v, u, -z⟩ := by
      unfold two at h
      simpa using h
    rcases h with rfl | rfl
    · unfold okLk isIx top
      simp
      omega
    · unfold okLk isIx top
      simp
      omega
theorem two_with {n : Int} {L : List Lk} {u v z : Int} (hc : (check n L).1 = 0) (hl : L.length ≤ 298) (hu : 0 ≤ u ∧ u < n) (hv : 0 ≤ v ∧ v < n) (huv : u ≠ v) (hz : -4503599627370496 ≤ z ∧ z ≤ 4503599627370496) : withE n L (two u v z) = 0 := by
  unfold withE
  rw [if_neg (by omega), if_neg (by show ¬ (300 : Int) - L.length < ((2 : Nat) : Int); omega)]
  exact two_check hc hl hu hv huv hz

/-- a solution with the two links fixes the difference -/
theorem two_diff {L : List Lk} {u v z : Int} {σ : Nat → Int} (hu : 0 ≤ u) (hv : 0 ≤ v) (h : Sol (L ++ two u v z) [] σ) : σ u.toNat - σ v.toNat = z := by
  have a0 : (L ++ two u v z).getD (L.length + 0) noLk = ⟨u, v, z⟩ := getD_right
  have a1 : (L ++ two u v z).getD (L.length + 1) noLk = ⟨v, u, -z⟩ := getD_right
  have m0 : (L ++ two u v z).getD (L.length + 0) noLk ∈ linksInto (L ++ two u v z) [] ((L ++ two u v z).getD (L.length + 0) noLk).t.toNat := mem_links (by rw [List.length_append]; show _ < L.length + 2; omega) rfl (by rw [a0]; exact hv)
  have m1 : (L ++ two u v z).getD (L.length + 1) noLk ∈ linksInto (L ++ two u v z) [] ((L ++ two u v z).getD (L.length + 1) noLk).t.toNat := mem_links (by rw [List.length_append]; show _ < L.length + 2; omega) rfl (by rw [a1]; exact hu)
  rw [a0] at m0
  rw [a1] at m1
  have h0 : σ u.toNat ≤ σ v.toNat + z := h _ _ m0
  have h1 : σ v.toNat ≤ σ u.toNat + -z := h _ _ m1
  omega
theorem two_sol {L : List Lk} {u v z : Int} {σ : Nat → Int} (h : Sol L [] σ) (hd : σ u.toNat - σ v.toNat = z) : Sol (L ++ two u v z) [] σ := fun t l hl => by
  obtain ⟨i, hi, _, rfl, ht⟩ := mem_links_inv hl
  by_cases hiL : i < L.length
  · rw [getD_left hiL] at ht ⊢
    have h1 := mem_links (L := L) (drop := []) hiL rfl (by rw [ht]; omega)
    rw [ht] at h1
    exact h t _ h1
  · obtain ⟨j, rfl⟩ : ∃ j, i = L.length + j := ⟨i - L.length, by omega⟩
    rw [getD_right] at ht ⊢
    have hj : j < 2 := by rw [List.length_append] at hi; have : (two u v z).length = 2 := rfl; omega
    match j, hj with
    | 0, _ =>
      have ht : v = (t : Int) := ht
      show σ u.toNat ≤ σ t + z
      have e : v.toNat = t := by omega
      rw [e] at hd
      omega
    | 1, _ =>
      have ht : u = (t : Int) := ht
      show σ v.toNat ≤ σ t + -z
      have e : u.toNat = t := by omega
      rw [e] at hd
      omega

theorem between_iff {n : Int} {L : List Lk} {k k2 : Nat} {u v z hi bk : Int} (hE : EN n L k) (hE2 : EN n (L ++ two u v z) k2) (h1 : bound n L k u v = (hi, 0)) (h2 : bound n L k v u = (bk, 0)) (hl : L.length ≤ 298) (huv : u ≠ v) (hz : -4503599627370496 ≤ z ∧ z ≤ 4503599627370496) :
    (cons n.toNat (L ++ two u v z) [] k2 = true ↔ z ≤ hi ∧ -bk ≤ z) := by
  obtain ⟨o1, o2, o3⟩ := bound_some (n := n) (L := L) (k := k) (u := u) (v := v) (by rw [h1])
  obtain ⟨q1, q2, q3⟩ := bound_some (n := n) (L := L) (k := k) (u := v) (v := u) (by rw [h2])
  obtain ⟨hc, hu, hv, hB, hV⟩ := opn_at hE o1
  obtain ⟨_, _, _, hB2, _⟩ := opn_at hE q1
  rw [h1] at o3
  rw [h2] at q3
  have hc2 := two_check hc hl hu hv huv hz
  rw [hE2.sol hc2]
  constructor
  · rintro ⟨σ, hσ⟩
    have hd := two_diff hu.1 hv.1 hσ
    have g1 := (hB.sol σ (sol_left hσ) u.toNat (by omega)).resolve_left o2
    have g2 := (hB2.sol σ (sol_left hσ) v.toNat (by omega)).resolve_left q2
    simp only at o3 q3
    omega
  · rintro ⟨z1, z2⟩
    have r1 := reach_ok hc hB hV (u := u.toNat) (v := v.toNat) (by omega) (by omega) o2
    have r2 := reach_ok hc hB2 hV (u := v.toNat) (v := u.toNat) (by omega) (by omega) q2
    simp only at o3 q3
    generalize reachF (bt n.toNat L [] k v.toNat) (lvs n.toNat L k) u.toNat v.toNat = Y1 at r1
    generalize reachF (bt n.toNat L [] k u.toNat) (lvs n.toNat L k) v.toNat u.toNat = Y2 at r2
    have s1 := sol_of_solves (drop := []) (fits_sol r1.1).2.2.2.1
    have s2 := sol_of_solves (drop := []) (fits_sol r2.1).2.2.2.1
    have d1 := r1.2
    have d2 := r2.2
    rw [← o3] at d1
    rw [← q3] at d2
    refine ⟨fun i => min (Y1.getD v.toNat 0 - Y1.getD i 0) (Y2.getD v.toNat 0 - Y2.getD i 0 + (z + bk)), two_sol (fun t l hl => ?_) ?_⟩
    · have g1 := s1 t l hl
      have g2 := s2 t l hl
      simp only at g1 g2 ⊢
      omega
    · show min (Y1.getD v.toNat 0 - Y1.getD u.toNat 0) (Y2.getD v.toNat 0 - Y2.getD u.toNat 0 + (z + bk)) - min (Y1.getD v.toNat 0 - Y1.getD v.toNat 0) (Y2.getD v.toNat 0 - Y2.getD v.toNat 0 + (z + bk)) = z
      omega
theorem between_bound {n : Int} {L : List Lk} {k2 : Nat} {u v z : Int} (hE2 : EN n (L ++ two u v z) k2) (hc2 : (check n (L ++ two u v z)).1 = 0) (hu : 0 ≤ u ∧ u < n) (hv : 0 ≤ v ∧ v < n) (hk : cons n.toNat (L ++ two u v z) [] k2 = true) : bound n (L ++ two u v z) k2 u v = (z, 0) := by
  have h1 : opn n (L ++ two u v z) [u, v] k2 = 0 := by
    unfold opn openE
    rw [if_neg (by omega), if_pos (by simp [isIx]; omega), hk]
    rfl
  obtain ⟨_, _, _, hB, _⟩ := opn_at hE2 h1
  obtain ⟨σ, hσ⟩ := hE2.cons hc2 hk
  have hd := two_diff hu.1 hv.1 hσ
  have a0 : (L ++ two u v z).getD (L.length + 0) noLk = ⟨u, v, z⟩ := getD_right
  have hw := way_one (L := L ++ two u v z) (drop := []) (i := L.length + 0) (by rw [List.length_append]; show _ < L.length + 2; omega) rfl
  rw [a0] at hw
  have hw : way (L ++ two u v z) [] u [L.length + 0] ((v.toNat : Nat) : Int) z := by rw [show ((v.toNat : Nat) : Int) = v by omega]; exact hw
  obtain ⟨g1, g2⟩ := hB.up hw
  have g3 := (hB.sol σ hσ u.toNat (by omega)).resolve_left g2
  unfold bound
  rw [if_neg (by omega), if_neg g2]
  congr 1
  omega
theorem fits_left {n : Int} {L M : List Lk} {x : List Int} (hc : (check n L).1 = 0) (h : fits n (L ++ M) x = (true, 0)) : fits n L x = (true, 0) := by
  obtain ⟨_, h1, h2, h3, h4⟩ := fits_sol h
  refine fits_of hc h1 h2 (solves_ix.2 fun j hj => ?_) h4
  have := solves_ix.1 h3 j (by rw [List.length_append]; omega)
  rwa [getD_left hj] at this
end Ch

/- Package chain, mirrored: a further link, and the bounds that it makes. -/
namespace Ch

theorem way_left {L M : List Lk} : ∀ {l : List Nat} {u v w : Int}, way L [] u l v w → way (L ++ M) [] u l v w
  | [], _, _, _, h => h
  | i :: r, u, v, w, h => by
    obtain ⟨h0, hd, hf, ht⟩ := h
    refine ⟨by rw [List.length_append]; omega, rfl, by rw [getD_left h0]; exact hf, ?_⟩
    rw [getD_left h0]
    exact way_left ht
theorem last_lk {L : List Lk} {x : Lk} : (L ++ [x]).getD L.length noLk = x := getD_right (M := [x]) (i := 0)
/-- all bounds of a system with a solution -/
def TB (n : Nat) (L : List Lk) (D : Nat → Nat → Int) : Prop := ∀ v, v < n → ∃ s, BT n L [] v s ∧ ∀ u, u < n → s.getD u 0 = D u v
theorem TB.up {n : Nat} {L : List Lk} {D : Nat → Nat → Int} (h : TB n L D) {u v : Nat} (hu : u < n) (hv : v < n) {l : List Nat} {w : Int} (hw : way L [] u l v w) : D u v ≤ w ∧ D u v ≠ free := by
  obtain ⟨s, hB, hs⟩ := h v hv
  have := hB.up hw
  rw [show (u : Int).toNat = u from rfl, hs u hu] at this
  exact this
theorem TB.way {n : Nat} {L : List Lk} {D : Nat → Nat → Int} (h : TB n L D) {u v : Nat} (hu : u < n) (hv : v < n) (hf : D u v ≠ free) : ∃ l, way L [] u l v (D u v) := by
  obtain ⟨s, hB, hs⟩ := h v hv
  obtain ⟨l, _, hl⟩ := hB.at' u hu (by rw [hs u hu]; exact hf)
  rw [hs u hu] at hl
  exact ⟨l, hl⟩
theorem TB.zero {n : Nat} {L : List Lk} {D : Nat → Nat → Int} (h : TB n L D) {v : Nat} (hv : v < n) : D v v = 0 := by
  obtain ⟨s, hB, hs⟩ := h v hv
  rw [← hs v hv]; exact hB.zero
theorem TB.range {n : Nat} {L : List Lk} {D : Nat → Nat → Int} (h : TB n L D) {u v : Nat} (hu : u < n) (hv : v < n) : -265712378014859264 ≤ D u v ∧ (D u v = 1152921504606846976 ∨ D u v ≤ 265712378014859264) := by
  obtain ⟨s, hB, hs⟩ := h v hv
  rw [← hs u hu]
  exact ⟨hB.lo u hu, hB.hi u hu⟩

theorem TB.tri {n : Nat} {L : List Lk} {D : Nat → Nat → Int} (h : TB n L D) {u v w : Nat} (hu : u < n) (hv : v < n) (hw : w < n) (h1 : D u v ≠ free) (h2 : D v w ≠ free) : D u w ≤ D u v + D v w ∧ D u w ≠ free := by
  obtain ⟨l, hl⟩ := h.way hu hv h1
  obtain ⟨r, hr⟩ := h.way hv hw h2
  exact h.up hu hw (way_append hl hr)
/-- a chain that goes by the new link at most once -/
def Wm (D : Nat → Nat → Int) (x : Lk) (v u : Nat) (s : Int) : Prop := (D u v ≠ free ∧ D u v ≤ s) ∨ (D u x.f.toNat ≠ free ∧ D x.t.toNat v ≠ free ∧ D u x.f.toNat + x.m + D x.t.toNat v ≤ s)

theorem more_way {n : Nat} {L : List Lk} {x : Lk} (hok : ∀ j, j < L.length → okLk n (L.getD j noLk) = true) (hx : okLk n x = true) {D : Nat → Nat → Int} (hD : TB n L D) (H : D x.t.toNat x.f.toNat = free ∨ 0 ≤ x.m + D x.t.toNat x.f.toNat) {v : Nat} (hv : v < n) :
    ∀ {l : List Nat} {u s : Int}, way (L ++ [x]) [] u l v s → Wm D x v u.toNat s
  | [], u, s, h => by
    obtain ⟨rfl, rfl⟩ := h
    rw [show ((v : Int).toNat) = v from rfl]
    have := hD.zero hv
    exact .inl ⟨by rw [this]; decide, by rw [this]; exact Int.le_refl _⟩
  | i :: r, u, s, h => by
    obtain ⟨f0, f1, t0, t1, _⟩ := okLk_spec hx
    obtain ⟨h0, _, hf, ht⟩ := h
    rw [List.length_append] at h0
    have h0 : i < L.length + 1 := h0
    have ih := more_way hok hx hD H hv ht
    by_cases hi : i < L.length
    · rw [getD_left hi] at hf ih
      obtain ⟨g0, g1, k0, k1, _⟩ := okLk_spec (hok i hi)
      have hw1 := way_one (L := L) (drop := []) hi rfl
      have step : ∀ y, y < n → D (L.getD i noLk).t.toNat y ≠ free → D u.toNat y ≤ (L.getD i noLk).m + D (L.getD i noLk).t.toNat y ∧ D u.toNat y ≠ free := fun y hy hne => by
        obtain ⟨l, hl⟩ := hD.way (by omega) hy hne
        rw [show (((L.getD i noLk).t.toNat : Nat) : Int) = (L.getD i noLk).t by omega] at hl
        have := way_append hw1 hl
        rw [hf, show u = ((u.toNat : Nat) : Int) by omega] at this
        exact hD.up (by omega) hy this
      rcases ih with ⟨a1, a2⟩ | ⟨a1, a2, a3⟩
      · obtain ⟨b1, b2⟩ := step v hv a1
        exact .inl ⟨b2, by omega⟩
      · obtain ⟨b1, b2⟩ := step x.f.toNat (by omega) a1
        exact .inr ⟨b2, a2, by omega⟩
    · obtain rfl : i = L.length := by omega
      rw [last_lk] at hf ih
      have hz := hD.zero (v := x.f.toNat) (by omega)
      have hfin : D x.f.toNat x.f.toNat ≠ free := by rw [hz]; decide
      rw [← hf]
      rcases ih with ⟨a1, a2⟩ | ⟨a1, a2, a3⟩
      · exact .inr ⟨hfin, a1, by rw [hz]; omega⟩
      · refine .inr ⟨hfin, a2, ?_⟩
        rcases H with H | H
        · exact absurd H a1
        · rw [hz]; omega
theorem more_ok {n : Int} {L : List Lk} {x : Lk} (h : (check n (L ++ [x])).1 = 0) : okLk n x = true := by
  obtain ⟨_, _, _, hok⟩ := check_ok h
  have := hok L.length (by rw [List.length_append]; exact Nat.lt_succ_self _)
  rwa [last_lk] at this

theorem more_sol {n : Nat} {L : List Lk} {x : Lk} (hok : ∀ j, j < L.length → okLk n (L.getD j noLk) = true) (hx : okLk n x = true) {D : Nat → Nat → Int} (hD : TB n L D) :
    (∃ σ, Sol (L ++ [x]) [] σ) ↔ D x.t.toNat x.f.toNat = free ∨ 0 ≤ x.m + D x.t.toNat x.f.toNat := by
  obtain ⟨f0, f1, t0, t1, _⟩ := okLk_spec hx
  have hokM : ∀ j, j < (L ++ [x]).length → okLk n ((L ++ [x]).getD j noLk) = true := fun j hj => by
    rw [List.length_append] at hj
    have hj : j < L.length + 1 := hj
    by_cases h : j < L.length
    · rw [getD_left h]; exact hok j h
    · obtain rfl : j = L.length := by omega
      rw [last_lk]; exact hx
  have hw1 := way_one (L := L ++ [x]) (drop := []) (i := L.length) (by rw [List.length_append]; exact Nat.lt_succ_self _) rfl
  rw [last_lk] at hw1
  constructor
  · rintro ⟨σ, hs⟩
    by_cases h : D x.t.toNat x.f.toNat = free
    · exact .inl h
    · obtain ⟨l, hl⟩ := hD.way (by omega) (by omega) h
      rw [show ((x.t.toNat : Nat) : Int) = x.t by omega, show ((x.f.toNat : Nat) : Int) = x.f by omega] at hl
      have h1 := sol_no_neg hokM hs (way_append hw1 (way_left (M := [x]) hl))
      exact .inr h1
  · intro h
    refine Classical.byContradiction fun hno => ?_
    obtain ⟨u, l, w, hl, hw, hl1, _⟩ := no_sol_way hokM hno
    have hu : 0 ≤ u ∧ u < n := by
      cases l with
      | nil => simp at hl1
      | cons i r =>
        have := okLk_spec (hokM i hl.1)
        have e := hl.2.2.1
        omega
    have hl' : way (L ++ [x]) [] u l ((u.toNat : Nat) : Int) w := by rw [show ((u.toNat : Nat) : Int) = u by omega]; exact hl
    have hz := hD.zero (v := u.toNat) (by omega)
    rcases more_way hok hx hD h (v := u.toNat) (by omega) hl' with ⟨_, a2⟩ | ⟨a1, a2, a3⟩
    · omega
    · obtain ⟨b1, b2⟩ := hD.tri (u := x.t.toNat) (v := u.toNat) (w := x.f.toNat) (by omega) (by omega) (by omega) a2 a1
      rcases h with h | h
      · exact b2 h
      · omega
/-- the new bounds -/
theorem more_bound {n : Nat} {L : List Lk} {x : Lk} (hok : ∀ j, j < L.length → okLk n (L.getD j noLk) = true) (hx : okLk n x = true) {D E : Nat → Nat → Int} (hD : TB n L D) (hE : TB n (L ++ [x]) E) (H : D x.t.toNat x.f.toNat = free ∨ 0 ≤ x.m + D x.t.toNat x.f.toNat) {u v : Nat} (hu : u < n) (hv : v < n) :
    E u v = if D u x.f.toNat < free ∧ D x.t.toNat v < free then min (D u v) (D u x.f.toNat + x.m + D x.t.toNat v) else D u v := by
  obtain ⟨f0, f1, t0, t1, _, m0, m1⟩ := okLk_spec hx
  have r1 := hD.range hu hv
  have r2 := hD.range (u := u) (v := x.f.toNat) hu (by omega)
  have r3 := hD.range (u := x.t.toNat) (v := v) (by omega) hv
  have r4 := hE.range hu hv
  have g1 : D u v ≠ free → E u v ≤ D u v ∧ E u v ≠ free := fun h => by
    obtain ⟨l, hl⟩ := hD.way hu hv h
    exact hE.up hu hv (way_left (M := [x]) hl)
  have g2 : D u x.f.toNat ≠ free → D x.t.toNat v ≠ free → E u v ≤ D u x.f.toNat + x.m + D x.t.toNat v ∧ E u v ≠ free := fun h1 h2 => by
    obtain ⟨l, hl⟩ := hD.way hu (by omega) h1
    obtain ⟨r, hr⟩ := hD.way (by omega) hv h2
    have hw1 := way_one (L := L ++ [x]) (drop := []) (i := L.length) (by rw [List.length_append]; exact Nat.lt_succ_self _) rfl
    rw [last_lk] at hw1
    rw [show ((x.f.toNat : Nat) : Int) = x.f by omega] at hl
    rw [show ((x.t.toNat : Nat) : Int) = x.t by omega] at hr
    exact hE.up hu hv (way_append (way_append (way_left (M := [x]) hl) hw1) (way_left (M := [x]) hr))
  have g3 : E u v ≠ free → Wm D x v u (E u v) := fun h => by
    obtain ⟨l, hl⟩ := hE.way hu hv h
    have := more_way hok hx hD H hv hl
    exact this
  unfold Wm at g3
  unfold free at *
  by_cases hc : D u x.f.toNat < 1152921504606846976 ∧ D x.t.toNat v < 1152921504606846976
  · rw [if_pos hc]
    have g4 := g2 (by omega) (by omega)
    rcases g3 g4.2 with ⟨a1, a2⟩ | ⟨a1, a2, a3⟩
    · have := g1 a1; omega
    · by_cases h : D u v = 1152921504606846976
      · omega
      · have := g1 h; omega
  · rw [if_neg hc]
    by_cases h : E u v = 1152921504606846976
    · by_cases h2 : D u v = 1152921504606846976
      · omega
      · exact absurd h (g1 h2).2
    · rcases g3 h with ⟨a1, a2⟩ | ⟨a1, a2, a3⟩
      · have := g1 a1; omega
      · omega
/-- the bound against the new link stays -/
theorem more_back {n : Nat} {L : List Lk} {x : Lk} (hok : ∀ j, j < L.length → okLk n (L.getD j noLk) = true) (hx : okLk n x = true) {D E : Nat → Nat → Int} (hD : TB n L D) (hE : TB n (L ++ [x]) E) (H : D x.t.toNat x.f.toNat = free ∨ 0 ≤ x.m + D x.t.toNat x.f.toNat) : E x.t.toNat x.f.toNat = D x.t.toNat x.f.toNat := by
  obtain ⟨f0, f1, t0, t1, _, m0, m1⟩ := okLk_spec hx
  rw [more_bound hok hx hD hE H (u := x.t.toNat) (v := x.f.toNat) (by omega) (by omega)]
  have r1 := hD.range (u := x.t.toNat) (v := x.f.toNat) (by omega) (by omega)
  unfold free at *
  split
  · omega
  · rfl

/-- the table of all bounds -/
def tb (n : Int) (L : List Lk) (k u v : Nat) : Int := (bt n.toNat L [] k v).getD u 0
theorem tb_of {n : Int} {L : List Lk} {k : Nat} (hE : EN n L k) (h : opn n L [] k = 0) : (check n L).1 = 0 ∧ (∃ σ, Sol L [] σ) ∧ TB n.toNat L (tb n L k) := by
  obtain ⟨c1, _, c3⟩ := opn_ok h
  obtain ⟨n1, n2, _, hok⟩ := check_ok c1
  have hok' : ∀ j, j < L.length → okLk n.toNat (L.getD j noLk) = true := by rw [show ((n.toNat : Nat) : Int) = n by omega]; exact hok
  have hs := hE.cons c1 c3
  refine ⟨c1, hs, fun v hv => ?_⟩
  obtain ⟨b1, _, _⟩ := enough_bt (hE.en c1) c3 (v := v) hv
  exact ⟨_, bt_spec (by omega) (by omega) hok' hv b1 hs, fun u _ => rfl⟩
end Ch

/- Package chain, mirrored: the slack of a further link. -/
namespace Ch
theorem slack_new {n : Int} {L : List Lk} {x : Lk} {k : Nat} (h : opn n (L ++ [x]) [] k = 0) : slack n (L ++ [x]) k (L.length : Int) = if tb n (L ++ [x]) k x.t.toNat x.f.toNat = free then (0, 5) else (tb n (L ++ [x]) k x.t.toNat x.f.toNat + x.m, 0) := by
  obtain ⟨c1, _, c3⟩ := opn_ok h
  obtain ⟨f0, f1, t0, t1, _⟩ := okLk_spec (more_ok c1)
  have h1 : opn n (L ++ [x]) [x.t, x.f] k = 0 := by
    unfold opn openE
    rw [if_neg (by omega), if_pos (by simp [isIx]; omega), c3]
    rfl
  have hx : isIx (L.length : Int) ((L ++ [x]).length : Int) = true := by
    rw [List.length_append]
    show isIx (L.length : Int) ((L.length + 1 : Nat) : Int) = true
    unfold isIx
    simp
    omega
  have hb : bound n (L ++ [x]) k x.t x.f = if tb n (L ++ [x]) k x.t.toNat x.f.toNat = free then (0, 5) else (tb n (L ++ [x]) k x.t.toNat x.f.toNat, 0) := by
    unfold bound
    rw [if_neg (by omega)]
    rfl
  unfold slack
  rw [if_neg (by omega), if_neg (by rw [hx]; simp), show ((L.length : Int)).toNat = L.length from rfl, last_lk, hb]
  by_cases hf : tb n (L ++ [x]) k x.t.toNat x.f.toNat = free
  · rw [if_pos hf, if_pos hf, if_pos (by decide)]
  · rw [if_neg hf, if_neg hf, if_neg (by simp)]
theorem with_one {n : Int} {L : List Lk} {x : Lk} (h : withE n L [x] = 0) : (check n L).1 = 0 ∧ (check n (L ++ [x])).1 = 0 := by
  unfold withE at h
  split at h
  · rename_i h1; exact absurd h h1
  · rename_i h1
    split at h
    · cases h
    · exact ⟨Classical.byContradiction h1, h⟩
theorem opn_nil {n : Int} {L : List Lk} {k : Nat} (hc : (check n L).1 = 0) : opn n L [] k = if cons n.toNat L [] k = true then 0 else 9 := by
  unfold opn openE
  rw [if_neg (by omega)]
  simp
end Ch
