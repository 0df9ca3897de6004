/- Package chain, mirrored: what CheckClash, CheckChain and Fits say of chains and solutions; what Reach returns is a solution that reaches the bound. -/
import Derived.Test.YtkcchangkhklcaaZUd
set_option linter.unusedSimpArgs false
set_option linter.unusedVariables false
namespace Ch

theorem follow_way {L : List Lk} {v : Int} : ∀ {l : List Nat} {u w s : Int}, way L [] u l v w → follow L v (ints l) u s = (s + w, true)
  | [], u, w, s, h => by
    obtain ⟨rfl, rfl⟩ := h
    simp [ints, follow]
  | i :: r, u, w, s, h => by
    obtain ⟨h0, _, hf, ht⟩ := h
    have e : ints (i :: r) = (i : Int) :: ints r := rfl
    rw [e, follow, show ((i : Int).toNat) = i from rfl, hf]
    simp only [bne_self_eq_false, Bool.false_eq_true, if_false]
    rw [follow_way ht]
    congr 1
    omega
theorem way_follow {L : List Lk} {v : Int} : ∀ {l : List Int} {u s : Int}, (∀ i ∈ l, 0 ≤ i ∧ i < (L.length : Int)) → (follow L v l u s).2 = true → way L [] u (l.map Int.toNat) v ((follow L v l u s).1 - s)
  | [], u, s, _, h => by
    rw [follow] at h ⊢
    exact ⟨by simpa using h, by omega⟩
  | i :: r, u, s, hi, h => by
    rw [follow] at h ⊢
    split at h
    · cases h
    · rename_i hf
      rw [if_neg hf]
      have h1 := way_follow (fun j hj => hi j (List.mem_cons_of_mem _ hj)) h
      have h2 := hi i List.mem_cons_self
      refine ⟨by omega, rfl, by simpa using hf, ?_⟩
      rw [show ∀ z : Int, z - s - (L.getD i.toNat noLk).m = z - (s + (L.getD i.toNat noLk).m) by intro z; omega]
      exact h1
theorem mem_getD {l : List Int} {i : Int} (h : i ∈ l) : ∃ k, k < l.length ∧ l.getD k 0 = i := by
  obtain ⟨k, hk, e⟩ := List.getElem_of_mem h
  exact ⟨k, hk, by rw [List.getD, List.getElem?_eq_getElem hk]; exact e⟩
theorem ixErr_ints {L : List Lk} {l : List Nat} (h : ∀ i ∈ l, i < L.length) (hl : l.length ≤ 80) : ixErr L.length (ints l) = 0 := by
  unfold ixErr
  rw [if_neg (by rw [ints, List.length_map]; omega), if_pos]
  rw [List.all_eq_true]
  intro x hx
  obtain ⟨i, hi, rfl⟩ := List.mem_map.1 hx
  have := h i hi
  unfold isIx
  simp
  omega
theorem ints_toNat (l : List Nat) : (ints l).map Int.toNat = l := by
  unfold ints
  rw [List.map_map]
  have : (Int.toNat ∘ fun i : Nat => (i : Int)) = id := by funext i; rfl
  rw [this, List.map_id]
theorem ints_len (l : List Nat) : (ints l).length = l.length := by simp [ints]

theorem checkChain_of_way {n : Int} {L : List Lk} {u v w : Int} {l : List Nat} (hc : (check n L).1 = 0) (hu : 0 ≤ u ∧ u < n) (hv : 0 ≤ v ∧ v < n) (h : way L [] u l v w) (hl : l.length ≤ 80) : checkChain n L u v (ints l) = (w, 0) := by
  unfold checkChain
  rw [if_neg (by omega), if_neg (by simp [isIx]; omega), if_neg (by rw [ixErr_ints (way_all h) hl]; simp), follow_way h]
  simp
theorem way_of_checkChain {n : Int} {L : List Lk} {u v : Int} {l : List Int} (h : (checkChain n L u v l).2 = 0) : (check n L).1 = 0 ∧ (0 ≤ u ∧ u < n) ∧ (0 ≤ v ∧ v < n) ∧ l.length ≤ 80 ∧ way L [] u (l.map Int.toNat) v (checkChain n L u v l).1 := by
  unfold checkChain at h ⊢
  by_cases h1 : (check n L).1 = 0
  · have h1' : ¬ (check n L).1 ≠ 0 := by omega
    rw [if_neg h1'] at h ⊢
    by_cases h2 : isIx u n = true ∧ isIx v n = true
    · rw [if_neg (by simpa using h2)] at h ⊢
      by_cases h3 : ixErr L.length l = 0
      · have h3' : ¬ ixErr L.length l ≠ 0 := by omega
        rw [if_neg h3'] at h ⊢
        by_cases h4 : (follow L v l u 0).2 = true
        · rw [if_pos h4]
          obtain ⟨i1, i2⟩ := ix_ok h3
          have hall : ∀ i ∈ l, 0 ≤ i ∧ i < (L.length : Int) := fun i hi => by
            obtain ⟨k, hk, rfl⟩ := mem_getD hi
            exact i2 k hk
          have := way_follow (s := 0) hall h4
          rw [Int.sub_zero] at this
          obtain ⟨a, b⟩ := h2
          simp [isIx] at a b
          exact ⟨h1, a, b, i1, this⟩
        · rw [if_neg h4] at h; cases h
      · rw [if_pos h3] at h; exact absurd h h3
    · rw [if_pos h2] at h; cases h
  · rw [if_pos h1] at h; exact absurd h h1

theorem checkClash_of_way {n : Int} {L : List Lk} {x w : Int} {l : List Nat} (hc : (check n L).1 = 0) (h : way L [] x l x w) (hw : w < 0) (hl : l.length ≤ 80) : checkClash n L (ints l) = 0 := by
  unfold checkClash
  have hne : ints l ≠ [] := fun e => by
    have : l = [] := by cases l with
      | nil => rfl
      | cons i r => cases e
    subst this
    exact absurd h.2 (by omega)
  have hs : start L (ints l) = x := by
    cases l with
    | nil => exact absurd rfl hne
    | cons i r => exact h.2.2.1
  rw [if_neg (by omega), if_neg (by rw [ixErr_ints (way_all h) hl]; simp), if_neg hne, hs, follow_way h, if_pos]
  exact ⟨rfl, by show (0 : Int) + w < 0; omega⟩
theorem way_of_checkClash {n : Int} {L : List Lk} {l : List Int} (h : checkClash n L l = 0) : (check n L).1 = 0 ∧ l.length ≤ 80 ∧ ∃ x w, way L [] x (l.map Int.toNat) x w ∧ w < 0 := by
  unfold checkClash at h
  split at h
  · rename_i h1; exact absurd h h1
  · rename_i h1
    split at h
    · rename_i h2; exact absurd h h2
    · rename_i h2
      split at h
      · cases h
      · split at h
        · rename_i h3
          obtain ⟨i1, i2⟩ := ix_ok (by omega : ixErr L.length l = 0)
          have hall : ∀ i ∈ l, 0 ≤ i ∧ i < (L.length : Int) := fun i hi => by
            obtain ⟨k, hk, rfl⟩ := mem_getD hi
            exact i2 k hk
          exact ⟨by omega, i1, _, _, way_follow hall h3.1, by omega⟩
        · cases h

/-! ### solutions -/
theorem solves_ix {x : List Int} : ∀ {L : List Lk}, solves L x = true ↔ ∀ j, j < L.length → x.getD (L.getD j noLk).t.toNat 0 ≤ x.getD (L.getD j noLk).f.toNat 0 + (L.getD j noLk).m
  | [] => by simp [solves]
  | l :: r => by
    rw [solves]
    constructor
    · intro h
      split at h
      · cases h
      · rename_i h1
        intro j hj
        cases j with
        | zero => show x.getD l.t.toNat 0 ≤ x.getD l.f.toNat 0 + l.m; omega
        | succ j => exact solves_ix.1 h j (by simpa using hj)
    · intro h
      have h0 : x.getD l.t.toNat 0 ≤ x.getD l.f.toNat 0 + l.m := h 0 (by simp)
      rw [if_neg (by omega)]
      exact solves_ix.2 fun j hj => h (j + 1) (by simpa using hj)
theorem sol_of_solves {L : List Lk} {drop : List Bool} {x : List Int} (h : solves L x = true) : Sol L drop fun i => -(x.getD i 0) := by
  intro v l hl
  obtain ⟨i, hi, _, rfl, ht⟩ := mem_links_inv hl
  have h1 := solves_ix.1 h i hi
  rw [ht] at h1
  rw [show ((v : Int).toNat) = v from rfl] at h1
  show -(x.getD (L.getD i noLk).f.toNat 0) ≤ -(x.getD v 0) + (L.getD i noLk).m
  omega
theorem solves_of_sol {n : Nat} {L : List Lk} (hok : ∀ j, j < L.length → okLk n (L.getD j noLk) = true) {σ : Nat → Int} (hσ : Sol L [] σ) {x : List Int} {c : Int} (hx : ∀ i, i < n → x.getD i 0 = c - σ i) : solves L x = true := by
  refine solves_ix.2 fun j hj => ?_
  obtain ⟨f0, f1, t0, t1, _⟩ := okLk_spec (hok j hj)
  have h1 := hσ _ _ (mem_links (drop := []) hj rfl t0)
  rw [hx _ (by omega), hx _ (by omega)]
  omega
theorem any_far_false {x : List Int} (h : ∀ i, i < x.length → -1152921504606846976 ≤ x.getD i 0 ∧ x.getD i 0 ≤ 1152921504606846976) : x.any far = false := by
  rw [List.any_eq_false]
  intro z hz
  obtain ⟨k, hk, rfl⟩ := mem_getD hz
  have := h k hk
  generalize x.getD k 0 = z at this ⊢
  unfold far free
  simp
  omega
theorem fits_of {n : Int} {L : List Lk} {x : List Int} (hc : (check n L).1 = 0) (hl : (x.length : Int) = n) (hb : ∀ i, i < x.length → -1152921504606846976 ≤ x.getD i 0 ∧ x.getD i 0 ≤ 1152921504606846976) (hs : solves L x = true) (h0 : x.getD 0 0 = 0) : fits n L x = (true, 0) := by
  unfold fits
  rw [if_neg (by omega), if_neg (by rw [any_far_false hb]; simp; omega), if_pos hs, h0]
  rfl
theorem fits_sol {n : Int} {L : List Lk} {x : List Int} (h : fits n L x = (true, 0)) : (check n L).1 = 0 ∧ (x.length : Int) = n ∧ (∀ i, i < x.length → -1152921504606846976 ≤ x.getD i 0 ∧ x.getD i 0 ≤ 1152921504606846976) ∧ solves L x = true ∧ x.getD 0 0 = 0 := by
  unfold fits at h
  split at h
  · cases h
  · rename_i h1
    split at h
    · cases h
    · rename_i h2
      split at h
      · rename_i h3
        have h4 : x.getD 0 0 = 0 := by
          have := (Prod.mk.inj h).1
          simpa using this
        refine ⟨by omega, by omega, any_far ?_, h3, h4⟩
        cases hh : x.any far
        · rfl
        · exact absurd (.inr hh) h2
      · cases h

/-- the difference of two values of a solution is at most the bound -/
theorem BT.fits {n : Nat} {L : List Lk} {v : Nat} (_hv : v < n) {s : List Int} (h : BT n L [] v s) {x : List Int} (hx : solves L x = true) {u : Nat} (hu : u < n) : s.getD u 0 = free ∨ x.getD v 0 - x.getD u 0 ≤ s.getD u 0 := by
  rcases h.sol _ (sol_of_solves hx) u hu with h1 | h1
  · exact .inl h1
  · exact .inr (by omega)

theorem reach_ok {n : Int} {L : List Lk} (hc : (check n L).1 = 0) {u v : Nat} {s lv : List Int} (hB : BT n.toNat L [] v s) (hV : LV n.toNat L lv) (hu : u < n.toNat) (hv : v < n.toNat) (hs : s.getD u 0 ≠ free) :
    Ch.fits n L (reachF s lv u v) = (true, 0) ∧ (reachF s lv u v).getD v 0 - (reachF s lv u v).getD u 0 = s.getD u 0 := by
  obtain ⟨n1, n2, _, hok⟩ := check_ok hc
  have hN : ((n.toNat : Nat) : Int) = n := by omega
  have hok' : ∀ j, j < L.length → okLk n.toNat (L.getD j noLk) = true := by rw [hN]; exact hok
  have hz := hB.zero
  have hr : rz s lv u v = max (-(lv.getD v 0)) (s.getD u 0 - lv.getD u 0) := rfl
  have bu := hV.b u hu
  have bv := hV.b v hv
  have su := (hB.hi u hu).resolve_left hs
  have su2 := hB.lo u hu
  generalize rz s lv u v = r at *
  have hlow : ∀ i, i < n.toNat → -265712378014859264 ≤ low s lv r i ∧ low s lv r i ≤ 531424756029718528 := fun i hi => by
    have h1 := hB.lo i hi
    have h2 := hV.b i hi
    unfold low
    omega
  have hat : ∀ i, i < n.toNat → (reachF s lv u v).getD i 0 = low s lv r 0 - low s lv r i := fun i hi => by
    rw [reachF_at (by rw [hV.len]; exact hi)]
    have e : rz s lv u v = r := by rw [hr]; rfl
    rw [e]
  have hsol : Sol L [] (low s lv r) := fun t l hl => by
    obtain ⟨i, hi, _, rfl, ht⟩ := mem_links_inv hl
    obtain ⟨f0, f1, t0, t1, _⟩ := okLk_spec (hok' i hi)
    have h1 := hV.sol t _ hl
    have ht' : t < n.toNat := by omega
    have hm := okLk_spec (hok' i hi)
    have h9 := hB.hi (L.getD i noLk).f.toNat (by omega)
    have h8 := hV.b t ht'
    have h7 := hV.b (L.getD i noLk).f.toNat (by omega)
    unfold low
    rcases hB.links t ht' with h2 | h2
    · have e : s.getD t 0 = 1152921504606846976 := h2
      unfold free at h9
      rw [e]
      simp only at h1
      omega
    · have h3 := h2 _ hl
      simp only at h1
      omega
  have hfits : fits n L (reachF s lv u v) = (true, 0) := by
    refine fits_of hc (by rw [reachF_len, hV.len]; omega) (fun i hi => ?_) (solves_of_sol hok' hsol hat) (by rw [hat 0 (by omega)]; omega)
    rw [reachF_len, hV.len] at hi
    have h1 := hlow i hi
    have h2 := hlow 0 (by omega)
    rw [hat i hi]
    omega
  refine ⟨hfits, ?_⟩
  rw [hat u hu, hat v hv]
  unfold low
  rw [hz]
  omega
end Ch
