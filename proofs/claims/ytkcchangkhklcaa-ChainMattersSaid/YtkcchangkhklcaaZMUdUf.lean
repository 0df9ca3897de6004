/- Several texts one behind the other. -/
import Derived.Test.YtkcchangkhklcaaZMUbUc
set_option linter.unusedSimpArgs false
set_option linter.unusedVariables false
/- Package chain, mirrored: Reach. -/
namespace Ch

/-- the levels of a system -/
def lvs (n : Nat) (L : List Lk) (k : Nat) : List Int := ((levels n L [] k).getD none).getD []
/-- by how much levels are raised -/
def rz (s lv : List Int) (u v : Nat) : Int := max (-(lv.getD v 0)) (s.getD u 0 - lv.getD u 0)
/-- the lesser one of a bound and a raised level -/
def low (s lv : List Int) (r : Int) (i : Nat) : Int := min (s.getD i 0) (lv.getD i 0 + r)
def reachF (s lv : List Int) (u v : Nat) : List Int := (List.range lv.length).map fun i => low s lv (rz s lv u v) 0 - low s lv (rz s lv u v) i
/-- Reach -/
def reach (n : Int) (L : List Lk) (k : Nat) (u v : Int) : List Int × Int :=
  if opn n L [u, v] k ≠ 0 then ([], opn n L [u, v] k) else
  if (bt n.toNat L [] k v.toNat).getD u.toNat 0 = free then ([], 5) else (reachF (bt n.toNat L [] k v.toNat) (lvs n.toNat L k) u.toNat v.toNat, 0)
theorem reachF_at {s lv : List Int} {u v i : Nat} (h : i < lv.length) : (reachF s lv u v).getD i 0 = low s lv (rz s lv u v) 0 - low s lv (rz s lv u v) i := by
  unfold reachF
  rw [List.getD, List.getElem?_map, List.getElem?_range h]; rfl
theorem reachF_len {s lv : List Int} {u v : Nat} : (reachF s lv u v).length = lv.length := by simp [reachF]

/-- levels: how large they are, and that they keep the links -/
structure LV (n : Nat) (L : List Lk) (lv : List Int) : Prop where
  len : lv.length = n
  b : ∀ i, i < n → -265712378014859264 ≤ lv.getD i 0 ∧ lv.getD i 0 ≤ 0
  sol : Sol L [] fun i => lv.getD i 0
theorem lv_spec {n : Nat} (h1 : 1 ≤ n) (h2 : n ≤ 60) {L : List Lk} (hok : ∀ j, j < L.length → okLk n (L.getD j noLk) = true) {k : Nat} (hc : cons n L [] k = true) : levels n L [] k = some (some (lvs n L k)) ∧ LV n L (lvs n L k) := by
  unfold cons at hc
  split at hc
  · rename_i s e
    have e2 : lvs n L k = s := by unfold lvs; rw [e]; rfl
    rw [e2]
    have hf := settleGo_finds hok ((begin_zero n).wf h1 h2) ((begin_zero n).rx h2 L []) e
    obtain ⟨y, hy, ey⟩ := settleGo_wf hok ((begin_zero n).wf h1 h2) e
    refine ⟨e, hf.2.2, fun i hi => ⟨?_, ?_⟩, levels_sol h1 h2 hok e⟩
    · have a1 := hy.lo i hi
      have a2 := (hy.cb i hi).2
      rw [ey] at a1
      omega
    · have a1 := hf.2.1 i hi
      have a2 : (List.replicate n (0 : Int)).getD i 0 = 0 := by
        rw [List.getD, List.getElem?_replicate, if_pos hi]; rfl
      rw [show (settle0 (List.replicate n 0)).s = List.replicate n 0 from rfl, a2] at a1
      exact a1
  · cases hc
end Ch

/- Package chain, mirrored: what CheckClash, CheckChain and Fits say of chains and solutions; what Reach returns is a solution that reaches the bound. -/
namespace Ch

theorem follow_way {L : List Lk} {v : Int} : ∀ {l : List Nat} {u w s : Int}, way L [] u l v w → follow L v (ints l) u s = (s + w, true)
  | [], u, w, s, h => by
    obtain ⟨rfl, rfl⟩ := h
    simp [ints, follow]
  | i :: r, u, w, s, h => by
    obtain ⟨h0, _, hf, ht⟩ := h
    have e : ints (i :: r) = (i : Int) :: ints r := rfl
    rw [e, follow, show ((i : Int).toNat) = i from rfl, hf]
    simp only [bne_self_eq_false, Bool.false_eq_true, if_false]
    rw [follow_way ht]
    congr 1
    omega
theorem way_follow {L : List Lk} {v : Int} : ∀ {l : List Int} {u s : Int}, (∀ i ∈ l, 0 ≤ i ∧ i < (L.length : Int)) → (follow L v l u s).2 = true → way L [] u (l.map Int.toNat) v ((follow L v l u s).1 - s)
  | [], u, s, _, h => by
    rw [follow] at h ⊢
    exact ⟨by simpa using h, by omega⟩
  | i :: r, u, s, hi, h => by
    rw [follow] at h ⊢
    split at h
    · cases h
    · rename_i hf
      rw [if_neg hf]
      have h1 := way_follow (fun j hj => hi j (List.mem_cons_of_mem _ hj)) h
      have h2 := hi i List.mem_cons_self
      refine ⟨by omega, rfl, by simpa using hf, ?_⟩
      rw [show ∀ z : Int, z - s - (L.getD i.toNat noLk).m = z - (s + (L.getD i.toNat noLk).m) by intro z; omega]
      exact h1
theorem mem_getD {l : List Int} {i : Int} (h : i ∈ l) : ∃ k, k < l.length ∧ l.getD k 0 = i := by
  obtain ⟨k, hk, e⟩ := List.getElem_of_mem h
  exact ⟨k, hk, by rw [List.getD, List.getElem?_eq_getElem hk]; exact e⟩
theorem ixErr_ints {L : List Lk} {l : List Nat} (h : ∀ i ∈ l, i < L.length) (hl : l.length ≤ 80) : ixErr L.length (ints l) = 0 := by
  unfold ixErr
  rw [if_neg (by rw [ints, List.length_map]; omega), if_pos]
  rw [List.all_eq_true]
  intro x hx
  obtain ⟨i, hi, rfl⟩ := List.mem_map.1 hx
  have := h i hi
  unfold isIx
  simp
  omega
theorem ints_toNat (l : List Nat) : (ints l).map Int.toNat = l := by
  unfold ints
  rw [List.map_map]
  have : (Int.toNat ∘ fun i : Nat => (i : Int)) = id := by funext i; rfl
  rw [this, List.map_id]
theorem ints_len (l : List Nat) : (ints l).length = l.length := by simp [ints]

theorem checkChain_of_way {n : Int} {L : List Lk} {u v w : Int} {l : List Nat} (hc : (check n L).1 = 0) (hu : 0 ≤ u ∧ u < n) (hv : 0 ≤ v ∧ v < n) (h : way L [] u l v w) (hl : l.length ≤ 80) : checkChain n L u v (ints l) = (w, 0) := by
  unfold checkChain
  rw [if_neg (by omega), if_neg (by simp [isIx]; omega), if_neg (by rw [ixErr_ints (way_all h) hl]; simp), follow_way h]
  simp
theorem way_of_checkChain {n : Int} {L : List Lk} {u v : Int} {l : List Int} (h : (checkChain n L u v l).2 = 0) : (check n L).1 = 0 ∧ (0 ≤ u ∧ u < n) ∧ (0 ≤ v ∧ v < n) ∧ l.length ≤ 80 ∧ way L [] u (l.map Int.toNat) v (checkChain n L u v l).1 := by
  unfold checkChain at h ⊢
  by_cases h1 : (check n L).1 = 0
  · have h1' : ¬ (check n L).1 ≠ 0 := by omega
    rw [if_neg h1'] at h ⊢
    by_cases h2 : isIx u n = true ∧ isIx v n = true
    · rw [if_neg (by simpa using h2)] at h ⊢
      by_cases h3 : ixErr L.length l = 0
      · have h3' : ¬ ixErr L.length l ≠ 0 := by omega
        rw [if_neg h3'] at h ⊢
        by_cases h4 : (follow L v l u 0).2 = true
        · rw [if_pos h4]
          obtain ⟨i1, i2⟩ := ix_ok h3
          have hall : ∀ i ∈ l, 0 ≤ i ∧ i < (L.length : Int) := fun i hi => by
            obtain ⟨k, hk, rfl⟩ := mem_getD hi
            exact i2 k hk
          have := way_follow (s := 0) hall h4
          rw [Int.sub_zero] at this
          obtain ⟨a, b⟩ := h2
          simp [isIx] at a b
          exact ⟨h1, a, b, i1, this⟩
        · rw [if_neg h4] at h; cases h
      · rw [if_pos h3] at h; exact absurd h h3
    · rw [if_pos h2] at h; cases h
  · rw [if_pos h1] at h; exact absurd h h1

theorem checkClash_of_way {n : Int} {L : List Lk} {x w : Int} {l : List Nat} (hc : (check n L).1 = 0) (h : way L [] x l x w) (hw : w < 0) (hl : l.length ≤ 80) : checkClash n L (ints l) = 0 := by
  unfold checkClash
  have hne : ints l ≠ [] := fun e => by
    have : l = [] := by cases l with
      | nil => rfl
      | cons i r => cases e
    subst this
    exact absurd h.2 (by omega)
  have hs : start L (ints l) = x := by
    cases l with
    | nil => exact absurd rfl hne
    | cons i r => exact h.2.2.1
  rw [if_neg (by omega), if_neg (by rw [ixErr_ints (way_all h) hl]; simp), if_neg hne, hs, follow_way h, if_pos]
  exact ⟨rfl, by show (0 : Int) + w < 0; omega⟩
theorem way_of_checkClash {n : Int} {L : List Lk} {l : List Int} (h : checkClash n L l = 0) : (check n L).1 = 0 ∧ l.length ≤ 80 ∧ ∃ x w, way L [] x (l.map Int.toNat) x w ∧ w < 0 := by
  unfold checkClash at h
  split at h
  · rename_i h1; exact absurd h h1
  · rename_i h1
    split at h
    · rename_i h2; exact absurd h h2
    · rename_i h2
      split at h
      · cases h
      · split at h
        · rename_i h3
          obtain ⟨i1, i2⟩ := ix_ok (by omega : ixErr L.length l = 0)
          have hall : ∀ i ∈ l, 0 ≤ i ∧ i < (L.length : Int) := fun i hi => by
            obtain ⟨k, hk, rfl⟩ := mem_getD hi
            exact i2 k hk
          exact ⟨by omega, i1, _, _, way_follow hall h3.1, by omega⟩
        · cases h

/-! ### solutions -/
theorem solves_ix {x : List Int} : ∀ {L : List Lk}, solves L x = true ↔ ∀ j, j < L.length → x.getD (L.getD j noLk).t.toNat 0 ≤ x.getD (L.getD j noLk).f.toNat 0 + (L.getD j noLk).m
  | [] => by simp [solves]
  | l :: r => by
    rw [solves]
    constructor
    · intro h
      split at h
      · cases h
      · rename_i h1
        intro j hj
        cases j with
        | zero => show x.getD l.t.toNat 0 ≤ x.getD l.f.toNat 0 + l.m; omega
        | succ j => exact solves_ix.1 h j (by simpa using hj)
    · intro h
      have h0 : x.getD l.t.toNat 0 ≤ x.getD l.f.toNat 0 + l.m := h 0 (by simp)
      rw [if_neg (by omega)]
      exact solves_ix.2 fun j hj => h (j + 1) (by simpa using hj)
theorem sol_of_solves {L : List Lk} {drop : List Bool} {x : List Int} (h : solves L x = true) : Sol L drop fun i => -(x.getD i 0) := by
  intro v l hl
  obtain ⟨i, hi, _, rfl, ht⟩ := mem_links_inv hl
  have h1 := solves_ix.1 h i hi
  rw [ht] at h1
  rw [show ((v : Int).toNat) = v from rfl] at h1
  show -(x.getD (L.getD i noLk).f.toNat 0) ≤ -(x.getD v 0) + (L.getD i noLk).m
  omega
theorem solves_of_sol {n : Nat} {L : List Lk} (hok : ∀ j, j < L.length → okLk n (L.getD j noLk) = true) {σ : Nat → Int} (hσ : Sol L [] σ) {x : List Int} {c : Int} (hx : ∀ i, i < n → x.getD i 0 = c - σ i) : solves L x = true := by
  refine solves_ix.2 fun j hj => ?_
  obtain ⟨f0, f1, t0, t1, _⟩ := okLk_spec (hok j hj)
  have h1 := hσ _ _ (mem_links (drop := []) hj rfl t0)
  rw [hx _ (by omega), hx _ (by omega)]
  omega
theorem any_far_false {x : List Int} (h : ∀ i, i < x.length → -1152921504606846976 ≤ x.getD i 0 ∧ x.getD i 0 ≤ 1152921504606846976) : x.any far = false := by
  rw [List.any_eq_false]
  intro z hz
  obtain ⟨k, hk, rfl⟩ := mem_getD hz
  have := h k hk
  generalize x.getD k 0 = z at this ⊢
  unfold far free
  simp
  omega
theorem fits_of {n : Int} {L : List Lk} {x : List Int} (hc : (check n L).1 = 0) (hl : (x.length : Int) = n) (hb : ∀ i, i < x.length → -1152921504606846976 ≤ x.getD i 0 ∧ x.getD i 0 ≤ 1152921504606846976) (hs : solves L x = true) (h0 : x.getD 0 0 = 0) : fits n L x = (true, 0) := by
  unfold fits
  rw [if_neg (by omega), if_neg (by rw [any_far_false hb]; simp; omega), if_pos hs, h0]
  rfl
theorem fits_sol {n : Int} {L : List Lk} {x : List Int} (h : fits n L x = (true, 0)) : (check n L).1 = 0 ∧ (x.length : Int) = n ∧ (∀ i, i < x.length → -1152921504606846976 ≤ x.getD i 0 ∧ x.getD i 0 ≤ 1152921504606846976) ∧ solves L x = true ∧ x.getD 0 0 = 0 := by
  unfold fits at h
  split at h
  · cases h
  · rename_i h1
    split at h
    · cases h
    · rename_i h2
      split at h
      · rename_i h3
        have h4 : x.getD 0 0 = 0 := by
          have := (Prod.mk.inj h).1
          simpa using this
        refine ⟨by omega, by omega, any_far ?_, h3, h4⟩
        cases hh : x.any far
        · rfl
        · exact absurd (.inr hh) h2
      · cases h

/-- the difference of two values of a solution is at most the bound -/
theorem BT.fits {n : Nat} {L : List Lk} {v : Nat} (_hv : v < n) {s : List Int} (h : BT n L [] v s) {x : List Int} (hx : solves L x = true) {u : Nat} (hu : u < n) : s.getD u 0 = free ∨ x.getD v 0 - x.getD u 0 ≤ s.getD u 0 := by
  rcases h.sol _ (sol_of_solves hx) u hu with h1 | h1
  · exact .inl h1
  · exact .inr (by omega)

theorem reach_ok {n : Int} {L : List Lk} (hc : (check n L).1 = 0) {u v : Nat} {s lv : List Int} (hB : BT n.toNat L [] v s) (hV : LV n.toNat L lv) (hu : u < n.toNat) (hv : v < n.toNat) (hs : s.getD u 0 ≠ free) :
    Ch.fits n L (reachF s lv u v) = (true, 0) ∧ (reachF s lv u v).getD v 0 - (reachF s lv u v).getD u 0 = s.getD u 0 := by
  obtain ⟨n1, n2, _, hok⟩ := check_ok hc
  have hN : ((n.toNat : Nat) : Int) = n := by omega
  have hok' : ∀ j, j < L.length → okLk n.toNat (L.getD j noLk) = true := by rw [hN]; exact hok
  have hz := hB.zero
  have hr : rz s lv u v = max (-(lv.getD v 0)) (s.getD u 0 - lv.getD u 0) := rfl
  have bu := hV.b u hu
  have bv := hV.b v hv
  have su := (hB.hi u hu).resolve_left hs
  have su2 := hB.lo u hu
  generalize rz s lv u v = r at *
  have hlow : ∀ i, i < n.toNat → -265712378014859264 ≤ low s lv r i ∧ low s lv r i ≤ 531424756029718528 := fun i hi => by
    have h1 := hB.lo i hi
    have h2 := hV.b i hi
    unfold low
    omega
  have hat : ∀ i, i < n.toNat → (reachF s lv u v).getD i 0 = low s lv r 0 - low s lv r i := fun i hi => by
    rw [reachF_at (by rw [hV.len]; exact hi)]
    have e : rz s lv u v = r := by rw [hr]; rfl
    rw [e]
  have hsol : Sol L [] (low s lv r) := fun t l hl => by
    obtain ⟨i, hi, _, rfl, ht⟩ := mem_links_inv hl
    obtain ⟨f0, f1, t0, t1, _⟩ := okLk_spec (hok' i hi)
    have h1 := hV.sol t _ hl
    have ht' : t < n.toNat := by omega
    have hm := okLk_spec (hok' i hi)
    have h9 := hB.hi (L.getD i noLk).f.toNat (by omega)
    have h8 := hV.b t ht'
    have h7 := hV.b (L.getD i noLk).f.toNat (by omega)
    unfold low
    rcases hB.links t ht' with h2 | h2
    · have e : s.getD t 0 = 1152921504606846976 := h2
      unfold free at h9
      rw [e]
      simp only at h1
      omega
    · have h3 := h2 _ hl
      simp only at h1
      omega
  have hfits : fits n L (reachF s lv u v) = (true, 0) := by
    refine fits_of hc (by rw [reachF_len, hV.len]; omega) (fun i hi => ?_) (solves_of_sol hok' hsol hat) (by rw [hat 0 (by omega)]; omega)
    rw [reachF_len, hV.len] at hi
    have h1 := hlow i hi
    have h2 := hlow 0 (by omega)
    rw [hat i hi]
    omega
  refine ⟨hfits, ?_⟩
  rw [hat u hu, hat v hv]
  unfold low
  rw [hz]
  omega
end Ch

/- Package chain, mirrored: what holds of Bound, Chain, Reach, Clash, CheckChain, CheckClash and Fits together. -/
namespace Ch

/-- fuel that is enough -/
structure EN (n : Int) (L : List Lk) (k : Nat) : Prop where
  en : (check n L).1 = 0 → enough n.toNat L [] k = true
  sol : (check n L).1 = 0 → (cons n.toNat L [] k = true ↔ ∃ σ, Sol L [] σ)
theorem en_ex (n : Int) (L : List Lk) : ∃ K, ∀ k, K ≤ k → EN n L k := by
  by_cases hc : (check n L).1 = 0
  · obtain ⟨n1, n2, _, hok⟩ := check_ok hc
    obtain ⟨K, hK⟩ := enough_ex (n := n.toNat) (by omega) (by omega) (L := L) (by rw [show ((n.toNat : Nat) : Int) = n by omega]; exact hok)
    exact ⟨K, fun k hk => ⟨fun _ => (hK k [] hk).1, fun _ => (hK k [] hk).2⟩⟩
  · exact ⟨0, fun k _ => ⟨fun h => absurd h hc, fun h => absurd h hc⟩⟩
theorem EN.cons {n : Int} {L : List Lk} {k : Nat} (h : EN n L k) (hc : (check n L).1 = 0) (hk : cons n.toNat L [] k = true) : ∃ σ, Sol L [] σ := (h.sol hc).1 hk

theorem opn_at {n : Int} {L : List Lk} {k : Nat} {u v : Int} (hE : EN n L k) (h : opn n L [u, v] k = 0) : (check n L).1 = 0 ∧ (0 ≤ u ∧ u < n) ∧ (0 ≤ v ∧ v < n) ∧ BT n.toNat L [] v.toNat (bt n.toNat L [] k v.toNat) ∧ LV n.toNat L (lvs n.toNat L k) := by
  obtain ⟨c1, c2, c3⟩ := opn_ok h
  obtain ⟨n1, n2, _, hok⟩ := check_ok c1
  have hok' : ∀ j, j < L.length → okLk n.toNat (L.getD j noLk) = true := by rw [show ((n.toNat : Nat) : Int) = n by omega]; exact hok
  simp [isIx] at c2
  obtain ⟨b1, _, _⟩ := enough_bt (hE.en c1) c3 (v := v.toNat) (by omega)
  exact ⟨c1, c2.1, c2.2, bt_spec (by omega) (by omega) hok' (by omega) b1 (hE.cons c1 c3), (lv_spec (by omega) (by omega) hok' c3).2⟩
theorem check_five {n : Int} {L : List Lk} : (check n L).1 ≠ 5 := by
  by_cases h0 : n < 1 ∨ 60 < n
  · rw [check_n h0]; decide
  · by_cases h1 : 300 < L.length
    · rw [check_l h0 h1]; decide
    · rw [check_mid (by omega) (by omega) h1]
      split
      · show (1 : Int) ≠ 5; decide
      · show (0 : Int) ≠ 5; decide
theorem opn_range {n : Int} {L : List Lk} {l : List Int} {k : Nat} : opn n L l k ≠ 5 := by
  unfold opn openE
  by_cases h : (check n L).1 ≠ 0
  · rw [if_pos h]; exact check_five
  · rw [if_neg h]
    by_cases h2 : l.all (fun i => isIx i n) = true
    · rw [if_pos h2]
      cases cons n.toNat L [] k <;> decide
    · rw [if_neg h2]; decide
theorem bound_some {n : Int} {L : List Lk} {k : Nat} {u v : Int} (h : (bound n L k u v).2 = 0) : opn n L [u, v] k = 0 ∧ (bt n.toNat L [] k v.toNat).getD u.toNat 0 ≠ free ∧ (bound n L k u v).1 = (bt n.toNat L [] k v.toNat).getD u.toNat 0 := by
  unfold bound at h ⊢
  split at h
  · rename_i h1; exact absurd h h1
  · rename_i h1
    split at h
    · cases h
    · rename_i h2
      have h1' : opn n L [u, v] k = 0 := Classical.byContradiction h1
      refine ⟨h1', h2, ?_⟩
      rw [if_neg h1, if_neg h2]
theorem bound_none {n : Int} {L : List Lk} {k : Nat} {u v : Int} (h : (bound n L k u v).2 = 5) : opn n L [u, v] k = 0 ∧ (bt n.toNat L [] k v.toNat).getD u.toNat 0 = free := by
  unfold bound at h
  split at h
  · exact absurd h opn_range
  · rename_i h1
    split at h
    · rename_i h2
      exact ⟨Classical.byContradiction h1, h2⟩
    · cases h

theorem sharp_none {n : Int} {L : List Lk} {k : Nat} {u v : Int} (hE : EN n L k) (h : (bound n L k u v).2 = 5) (l : List Int) : (checkChain n L u v l).2 ≠ 0 := by
  intro h2
  obtain ⟨h1, h3⟩ := bound_none h
  obtain ⟨_, _, hv, hB, _⟩ := opn_at hE h1
  obtain ⟨_, _, _, _, hw⟩ := way_of_checkChain h2
  rw [show v = ((v.toNat : Nat) : Int) by omega] at hw
  exact (hB.up hw).2 h3
theorem sharp_fits {n : Int} {L : List Lk} {k : Nat} {u v : Int} (hE : EN n L k) (h : (bound n L k u v).2 = 0) {x : List Int} (hx : fits n L x = (true, 0)) : x.getD v.toNat 0 - x.getD u.toNat 0 ≤ (bound n L k u v).1 := by
  obtain ⟨h1, h2, h3⟩ := bound_some h
  obtain ⟨_, hu, hv, hB, _⟩ := opn_at hE h1
  rw [h3]
  exact (hB.fits (by omega) (fits_sol hx).2.2.2.1 (by omega)).resolve_left h2
theorem sharp_chain {n : Int} {L : List Lk} {k : Nat} {u v : Int} (hE : EN n L k) (h : (bound n L k u v).2 = 0) {l : List Int} (hl : (checkChain n L u v l).2 = 0) : (bound n L k u v).1 ≤ (checkChain n L u v l).1 := by
  obtain ⟨h1, h2, h3⟩ := bound_some h
  obtain ⟨_, hu, hv, hB, _⟩ := opn_at hE h1
  obtain ⟨_, _, _, _, hw⟩ := way_of_checkChain hl
  rw [h3]
  generalize (checkChain n L u v l).1 = z at hw ⊢
  rw [show v = ((v.toNat : Nat) : Int) by omega] at hw
  exact (hB.up hw).1
theorem sharp_own {n : Int} {L : List Lk} {k : Nat} {u v : Int} (hE : EN n L k) (h : (bound n L k u v).2 = 0) :
    ∃ c, chain n L k u v = some (c, 0) ∧ checkChain n L u v (ints c) = ((bound n L k u v).1, 0) ∧ (c.length : Int) < n ∧ ∀ l, checkChain n L u v l = ((bound n L k u v).1, 0) → c.length ≤ l.length := by
  obtain ⟨h1, h2, h3⟩ := bound_some h
  obtain ⟨hc, hu, hv, hB, _⟩ := opn_at hE h1
  obtain ⟨_, n2, _⟩ := check_ok hc
  obtain ⟨c, er, e1, e2, _, e4⟩ := chain_ex hE.en hE.cons u v (n := n) (L := L) (k := k)
  rw [h] at e2
  subst e2
  obtain ⟨g1, g2, g3⟩ := e4 rfl
  refine ⟨c, e1, checkChain_of_way hc hu hv g1 (by omega), g2, fun l hl => ?_⟩
  obtain ⟨_, _, _, _, hw⟩ := way_of_checkChain (by rw [hl])
  rw [hl] at hw
  have := g3 _ hw
  rwa [List.length_map] at this
theorem sharp_reach {n : Int} {L : List Lk} {k : Nat} {u v : Int} (hE : EN n L k) (h : (bound n L k u v).2 = 0) :
    ∃ Y, reach n L k u v = (Y, 0) ∧ fits n L Y = (true, 0) ∧ Y.getD v.toNat 0 - Y.getD u.toNat 0 = (bound n L k u v).1 := by
  obtain ⟨h1, h2, h3⟩ := bound_some h
  obtain ⟨hc, hu, hv, hB, hV⟩ := opn_at hE h1
  have := reach_ok hc hB hV (u := u.toNat) (v := v.toNat) (by omega) (by omega) h2
  refine ⟨_, ?_, this.1, by rw [h3]; exact this.2⟩
  unfold reach
  rw [if_neg (by simpa using h1), if_neg h2]
theorem reach_err {n : Int} {L : List Lk} {k : Nat} {u v : Int} (h : (bound n L k u v).2 ≠ 0) : reach n L k u v = ([], (bound n L k u v).2) := by
  unfold reach bound at *
  by_cases h1 : opn n L [u, v] k = 0
  · have h1' : ¬ opn n L [u, v] k ≠ 0 := fun hh => hh h1
    rw [if_neg h1'] at h ⊢
    rw [if_neg h1']
    by_cases h2 : (bt n.toNat L [] k v.toNat).getD u.toNat 0 = free
    · rw [if_pos h2, if_pos h2]
    · rw [if_neg h2] at h; exact absurd rfl h
  · rw [if_pos h1, if_pos h1]

/-! ### consistent or not -/
theorem ornot_fits {n : Int} {L : List Lk} {k : Nat} (hE : EN n L k) {x : List Int} (hx : fits n L x = (true, 0)) : cons n.toNat L [] k = true := by
  obtain ⟨h1, _, _, h2, _⟩ := fits_sol hx
  exact (hE.sol h1).2 ⟨_, sol_of_solves h2⟩
theorem ornot_clash {n : Int} {L : List Lk} {k : Nat} (hE : EN n L k) {l : List Int} (hl : checkClash n L l = 0) : cons n.toNat L [] k = false := by
  obtain ⟨h1, _, x, w, hw, hw0⟩ := way_of_checkClash hl
  cases hc : cons n.toNat L [] k
  · rfl
  · obtain ⟨σ, hσ⟩ := hE.cons h1 hc
    obtain ⟨n1, n2, _, hok⟩ := check_ok h1
    have := sol_no_neg (n := n.toNat) (by rw [show ((n.toNat : Nat) : Int) = n by omega]; exact hok) hσ hw
    omega
theorem bound_self {n : Int} {L : List Lk} {k : Nat} (hE : EN n L k) (hc : (check n L).1 = 0) (hk : cons n.toNat L [] k = true) : (bound n L k 0 0).2 = 0 := by
  obtain ⟨n1, n2, _, _⟩ := check_ok hc
  have h1 : opn n L [0, 0] k = 0 := by
    unfold opn openE
    rw [if_neg (by omega), if_pos (by simp [isIx]; omega), hk]
    rfl
  obtain ⟨_, _, _, hB, _⟩ := opn_at hE h1
  unfold bound
  rw [if_neg (by omega)]
  have h0 := hB.zero
  rw [show ((0 : Int).toNat) = 0 from rfl] at h0 ⊢
  rw [h0, if_neg (by decide)]
theorem open_clash {n : Int} {L : List Lk} {k : Nat} (hc : (check n L).1 = 0) (hk : cons n.toNat L [] k = false) {u v : Int} (hu : 0 ≤ u ∧ u < n) (hv : 0 ≤ v ∧ v < n) : opn n L [u, v] k = 9 := by
  unfold opn openE
  rw [if_neg (by omega), if_pos (by simp [isIx]; omega), hk]
  rfl
theorem ornot_no {n : Int} {L : List Lk} {k : Nat} (hE : EN n L k) (hc : (check n L).1 = 0) (hk : cons n.toNat L [] k = false) :
    ∃ c, clashE n L k = some (c, 0) ∧ 1 ≤ c.length ∧ (c.length : Int) ≤ n ∧ checkClash n L (ints c) = 0 ∧ ∀ l, checkClash n L l = 0 → c.length ≤ l.length := by
  obtain ⟨n1, n2, _, hok⟩ := check_ok hc
  have hok' : ∀ j, j < L.length → okLk n.toNat (L.getD j noLk) = true := by rw [show ((n.toNat : Nat) : Int) = n by omega]; exact hok
  have hno : ¬ ∃ σ, Sol L [] σ := fun h => by
    have := (hE.sol hc).2 h
    rw [hk] at this
    cases this
  obtain ⟨c, h1, ⟨x, w, h2, h3⟩, h4, h5, h6⟩ := clash_ex (by omega) hok' hno
  refine ⟨c, ?_, h4, by omega, checkClash_of_way hc h2 h3 (by omega), fun l hl => ?_⟩
  · unfold clashE
    rw [if_neg (by omega), hk, h1]
    rfl
  · obtain ⟨_, _, x', w', g1, g2⟩ := way_of_checkClash hl
    have := h6 _ x' w' g1 g2
    rwa [List.length_map] at this
end Ch
