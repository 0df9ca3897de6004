/- Package chain, mirrored: a system without a solution has a closed chain below 0, and Clash finds a shortest one. -/
import Derived.Test.YtkcchangkhklcaaZUb
import Derived.Test.YtkcchangkhklcaaZFw
set_option linter.unusedSimpArgs false
set_option linter.unusedVariables false
namespace Ch

theorem dup_split {g : Nat → Nat} : ∀ {l : List Nat}, ¬ (l.map g).Nodup → ∃ a i b j c, l = a ++ (i :: b) ++ (j :: c) ∧ g i = g j
  | [], h => absurd List.nodup_nil h
  | x :: r, h => by
    by_cases hr : (r.map g).Nodup
    · have hx : g x ∈ r.map g := by
        refine Classical.byContradiction fun hn => h ?_
        rw [List.map_cons]
        exact List.nodup_cons.2 ⟨hn, hr⟩
      obtain ⟨j, hj, he⟩ := List.mem_map.1 hx
      obtain ⟨b, c, rfl⟩ := List.append_of_mem hj
      exact ⟨[], x, b, j, c, rfl, he.symm⟩
    · obtain ⟨a, i, b, j, c, rfl, he⟩ := dup_split hr
      exact ⟨x :: a, i, b, j, c, rfl, he⟩

theorem way_start {L : List Lk} {drop : List Bool} {u v w : Int} {i : Nat} {r : List Nat} (h : way L drop u (i :: r) v w) : (L.getD i noLk).f = u := h.2.2.1
theorem way_all {L : List Lk} {drop : List Bool} : ∀ {l : List Nat} {u v w : Int}, way L drop u l v w → ∀ i ∈ l, i < L.length
  | [], _, _, _, _, i, hi => absurd hi List.not_mem_nil
  | i :: r, _, _, _, h, k, hk => by
    rcases List.mem_cons.1 hk with rfl | hk
    · exact h.1
    · exact way_all h.2.2.2 k hk

/-- a chain with more links than there are nodes goes round -/
theorem way_cut {n : Nat} {L : List Lk} {drop : List Bool} (hok : ∀ j, j < L.length → okLk n (L.getD j noLk) = true) {l : List Nat} {u v w : Int} (h : way L drop u l v w) (hl : n < l.length) :
    ∃ x z p q, way L drop x p x z ∧ p ≠ [] ∧ q ≠ [] ∧ p.length + q.length = l.length ∧ way L drop u q v (w - z) := by
  have hd : ¬ (l.map fun i => (L.getD i noLk).f.toNat).Nodup := fun hd => by
    have := nodup_len n _ hd (fun x hx => by
      obtain ⟨i, hi, rfl⟩ := List.mem_map.1 hx
      have := okLk_spec (hok i (way_all h i hi))
      omega)
    rw [List.length_map] at this
    omega
  obtain ⟨a, i, b, j, c, rfl, he⟩ := dup_split hd
  have hi := way_all h i (by simp)
  have hj := way_all h j (by simp)
  obtain ⟨x, s, h1, h2⟩ := way_split h
  obtain ⟨y, t, h3, h4⟩ := way_split h1
  have e1 := way_start h4
  have e2 := way_start h2
  obtain ⟨i0, _⟩ := okLk_spec (hok i hi)
  obtain ⟨j0, _⟩ := okLk_spec (hok j hj)
  have exy : x = y := by omega
  subst exy
  refine ⟨x, s - t, i :: b, a ++ (j :: c), h4, by simp, by simp, by simp; omega, ?_⟩
  have := way_append h3 h2
  rw [show w - (s - t) = t + (w - s) by omega]
  exact this

/-- a closed chain below 0: then one with no more links than there are nodes -/
theorem neg_short {n : Nat} {L : List Lk} {drop : List Bool} (hok : ∀ j, j < L.length → okLk n (L.getD j noLk) = true) : ∀ (m : Nat) {l : List Nat} {u w : Int}, l.length ≤ m → way L drop u l u w → w < 0 → ∃ x q z, way L drop x q x z ∧ z < 0 ∧ 1 ≤ q.length ∧ q.length ≤ n ∧ q.length ≤ l.length
  | 0, l, u, w, hm, h, hw => by
    obtain rfl : l = [] := List.eq_nil_of_length_eq_zero (by omega)
    exact absurd h.2 (by omega)
  | m + 1, l, u, w, hm, h, hw => by
    by_cases hl : l.length ≤ n
    · refine ⟨u, l, w, h, hw, ?_, hl, Nat.le_refl _⟩
      cases l with
      | nil => exact absurd h.2 (by omega)
      | cons i r => simp
    · obtain ⟨x, z, p, q, h1, hp, hq, hlen, h2⟩ := way_cut hok h (by omega)
      have hp1 : 1 ≤ p.length := by cases p with
        | nil => exact absurd rfl hp
        | cons => simp
      have hq1 : 1 ≤ q.length := by cases q with
        | nil => exact absurd rfl hq
        | cons => simp
      by_cases hz : z < 0
      · obtain ⟨x', q', z', g1, g2, g3, g4, g5⟩ := neg_short hok m (by omega) h1 hz
        exact ⟨x', q', z', g1, g2, g3, g4, by omega⟩
      · obtain ⟨x', q', z', g1, g2, g3, g4, g5⟩ := neg_short hok m (by omega) h2 (by omega)
        exact ⟨x', q', z', g1, g2, g3, g4, by omega⟩

/-! ### the table's entries are sums of chains -/
theorem fyK_way {n : Nat} {L : List Lk} (hok : ∀ j, j < L.length → okLk n (L.getD j noLk) = true) : ∀ k, k ≤ L.length → ∀ u v z, fyK L k u v = some z → ∃ l, way L [] (u : Nat) l (v : Nat) z
  | 0, _, u, v, z, h => by
    unfold fyK at h
    split at h
    · rename_i e
      cases h
      exact ⟨[], by omega, rfl⟩
    · cases h
  | k + 1, hk, u, v, z, h => by
    rcases fyLink_new h with h1 | ⟨rfl, rfl, rfl⟩
    · exact fyK_way hok k (by omega) u v z h1
    · obtain ⟨f0, _, t0, _⟩ := okLk_spec (hok k (by omega))
      have := way_one (L := L) (drop := []) (i := k) (by omega) rfl
      refine ⟨[k], ?_⟩
      rw [show (((L.getD k noLk).f.toNat : Nat) : Int) = (L.getD k noLk).f by omega, show (((L.getD k noLk).t.toNat : Nat) : Int) = (L.getD k noLk).t by omega]
      exact this
theorem fyR_way {n : Nat} {L : List Lk} (hok : ∀ j, j < L.length → okLk n (L.getD j noLk) = true) : ∀ k u v z, fyR L k u v = some z → ∃ l, way L [] (u : Nat) l (v : Nat) z
  | 0, u, v, z, h => fyK_way hok _ (Nat.le_refl _) u v z h
  | k + 1, u, v, z, h => by
    rcases fy_new h with h1 | ⟨x, y, h1, h2, rfl⟩
    · exact fyR_way hok k u v z h1
    · obtain ⟨l, hl⟩ := fyR_way hok k _ _ _ h1
      obtain ⟨r, hr⟩ := fyR_way hok k _ _ _ h2
      exact ⟨l ++ r, way_append hl hr⟩

/-- no solution: a closed chain below 0 -/
theorem no_sol_way {n : Nat} {L : List Lk} (hok : ∀ j, j < L.length → okLk n (L.getD j noLk) = true) (h : ¬ ∃ σ, Sol L [] σ) : ∃ u l w, way L [] u l u w ∧ w < 0 ∧ 1 ≤ l.length ∧ l.length ≤ n := by
  have h1 : ¬ ∀ j u, j ≤ n → u < n → fyR L j u u = some 0 := fun h2 => h ((fyR_ok hok).1 h2)
  have h2 : ∃ j u, j ≤ n ∧ u < n ∧ fyR L j u u ≠ some 0 := by
    refine Classical.byContradiction fun h3 => h1 fun j u hj hu => Classical.byContradiction fun h4 => h3 ⟨j, u, hj, hu, h4⟩
  obtain ⟨j, u, hj, hu, hne⟩ := h2
  obtain ⟨z, hz, hz0⟩ := fyR_diag hok u j
  have hz1 : z ≠ 0 := fun e => hne (by rw [hz, e])
  obtain ⟨l, hl⟩ := fyR_way hok j u u z hz
  obtain ⟨x, q, z', g1, g2, g3, g4, _⟩ := neg_short hok l.length (Nat.le_refl _) hl (by omega)
  exact ⟨x, q, z', g1, g2, g3, g4⟩
/-- with a solution no closed chain lies below 0 -/
theorem sol_no_neg {n : Nat} {L : List Lk} {drop : List Bool} {σ : Nat → Int} (hok : ∀ j, j < L.length → okLk n (L.getD j noLk) = true) (hσ : Sol L drop σ) {l : List Nat} {u w : Int} (h : way L drop u l u w) : 0 ≤ w := by
  have := way_sol hok hσ h
  omega

/-! ### Clash -/
theorem neg_iff {S : Nat → Nat → List Int} {j : Nat} : ∀ {t i : Nat}, neg S j t i = true ↔ ∃ x, i ≤ x ∧ x < i + t ∧ (S x j).getD x 0 < 0
  | 0, i => by
    constructor
    · intro h; cases h
    · rintro ⟨x, h1, h2, _⟩; omega
  | t + 1, i => by
    rw [neg, Bool.or_eq_true, decide_eq_true_eq, neg_iff]
    constructor
    · rintro (h | ⟨x, h1, h2, h3⟩)
      · exact ⟨i, Nat.le_refl _, by omega, h⟩
      · exact ⟨x, by omega, by omega, h3⟩
    · rintro ⟨x, h1, h2, h3⟩
      by_cases e : x = i
      · subst e; exact .inl h3
      · exact .inr ⟨x, by omega, by omega, h3⟩
theorem lnkC_spec {S : Nat → Nat → List Int} {n : Nat} : ∀ {t j m : Nat}, j ≤ m → m ≤ j + t → neg S m n 0 = true → neg S (lnkC S n t j) n 0 = true ∧ lnkC S n t j ≤ m
  | 0, j, m, h1, h2, h => by
    rw [lnkC]
    obtain rfl : m = j := by omega
    exact ⟨h, Nat.le_refl _⟩
  | t + 1, j, m, h1, h2, h => by
    rw [lnkC]
    by_cases e : neg S j n 0 = true
    · rw [if_pos e]; exact ⟨e, h1⟩
    · rw [if_neg e]
      have : m ≠ j := fun e2 => e (by rw [← e2]; exact h)
      exact lnkC_spec (by omega) (by omega) h
theorem best_ex {L : List Lk} {S : Nat → Nat → List Int} {j : Nat} : ∀ {t i : Nat} {b : Option (List Nat)}, (∀ x, i ≤ x → x < i + t → (S x j).getD x 0 < 0 → ∃ l, fst L (S x) j x (-1) = some l) →
    ∃ r, best L S j t i b = some r ∧ (neg S j t i = true ∨ b ≠ none → r ≠ none) ∧ ∀ l, r = some l → b = some l ∨ ∃ x, i ≤ x ∧ x < i + t ∧ (S x j).getD x 0 < 0 ∧ fst L (S x) j x (-1) = some l
  | 0, i, b, _ => ⟨b, rfl, fun h => h.elim (fun h => by cases h) id, fun l h => .inl h⟩
  | t + 1, i, b, h => by
    rw [best, neg]
    by_cases e : 0 ≤ (S i j).getD i 0
    · rw [if_pos e]
      obtain ⟨r, h1, h2, h3⟩ := best_ex (t := t) (i := i + 1) (b := b) (fun x hx hx2 => h x (by omega) (by omega))
      refine ⟨r, h1, fun hh => h2 ?_, fun l hl => (h3 l hl).imp id (fun ⟨x, hx, hx2, hx3⟩ => ⟨x, by omega, by omega, hx3⟩)⟩
      rw [Bool.or_eq_true, decide_eq_true_eq] at hh
      rcases hh with (hh | hh) | hh
      · omega
      · exact .inl hh
      · exact .inr hh
    · rw [if_neg e]
      obtain ⟨c, hc⟩ := h i (Nat.le_refl _) (by omega) (by omega)
      rw [hc]
      obtain ⟨r, h1, h2, h3⟩ := best_ex (t := t) (i := i + 1) (b := some (lesser c b)) (fun x hx hx2 => h x (by omega) (by omega))
      refine ⟨r, h1, fun _ => h2 (.inr (by simp)), fun l hl => ?_⟩
      rcases h3 l hl with h4 | ⟨x, hx, hx2, hx3⟩
      · have h5 : lesser c b = l := Option.some.inj h4
        unfold lesser at h5
        cases b with
        | none => exact .inr ⟨i, Nat.le_refl _, by omega, by omega, by rw [← h5]; exact hc⟩
        | some d =>
          simp only at h5
          split at h5
          · exact .inr ⟨i, Nat.le_refl _, by omega, by omega, by rw [← h5]; exact hc⟩
          · exact .inl (by rw [h5])
      · exact .inr ⟨x, by omega, by omega, hx3⟩

theorem clash_ex {n : Nat} (n2 : n ≤ 60) {L : List Lk} (hok : ∀ j, j < L.length → okLk n (L.getD j noLk) = true) (h : ¬ ∃ σ, Sol L [] σ) :
    ∃ l, clash n L [] = some (some l) ∧ (∃ x w, way L [] x l x w ∧ w < 0) ∧ 1 ≤ l.length ∧ l.length ≤ n ∧ ∀ r x w, way L [] x r x w → w < 0 → l.length ≤ r.length := by
  unfold clash
  have key : ∀ (m : Nat) (r : List Nat) (x w : Int), r.length = m → way L [] x r x w → w < 0 → r.length ≤ n → neg (fun v => sumsTo n L [] v) m n 0 = true := by
    intro m r x w hr hw hw0 hrn
    have hx : 0 ≤ x ∧ x < n := by
      cases r with
      | nil => exact absurd hw.2 (by omega)
      | cons i r =>
        have := okLk_spec (hok i hw.1)
        have e := hw.2.2.1
        omega
    rw [neg_iff]
    refine ⟨x.toNat, Nat.zero_le _, by omega, ?_⟩
    have := sums_le hok (v := x.toNat) (by omega) (l := r) (u := x) (w := w) (by omega) (by rw [show ((x.toNat : Nat) : Int) = x by omega]; exact hw)
    rw [hr] at this
    show (sumsTo n L [] x.toNat m).getD x.toNat 0 < 0
    omega
  obtain ⟨u, l, w, hl, hw0, hl1, hln⟩ := no_sol_way hok h
  have hk := key l.length l u w rfl hl hw0 hln
  obtain ⟨hn1, hle⟩ := lnkC_spec (S := fun v => sumsTo n L [] v) (n := n) (t := n - 1) (j := 1) hl1 (by omega) hk
  have hmin : ∀ r x w, way L [] x r x w → w < 0 → lnkC (fun v => sumsTo n L [] v) n (n - 1) 1 ≤ r.length := by
    intro r x w hr hw
    obtain ⟨x', q, z, g1, g2, g3, g4, g5⟩ := neg_short hok r.length (Nat.le_refl _) hr hw
    have := (lnkC_spec (S := fun v => sumsTo n L [] v) (n := n) (t := n - 1) (j := 1) g3 (by omega) (key q.length q x' z rfl g1 g2 g4)).2
    omega
  have hge := (lnkC_le (S := fun v => sumsTo n L [] v) (n := n) (t := n - 1) (j := 1)).1
  generalize lnkC (fun v => sumsTo n L [] v) n (n - 1) 1 = k at *
  have hf : ∀ x : Nat, x < n → (sumsTo n L [] x k).getD x 0 < 0 → ∃ c w, fst L (sumsTo n L [] x) k x (-1) = some c ∧ w ≤ -1 ∧ way L [] x c x w := by
    intro x hx hneg
    exact fst_ex hok hx k (u := x) (most := -1) (by omega) (by omega) (by omega) (by omega) (by rw [Int.toNat_natCast]; omega)
  obtain ⟨r, h1, h2, h3⟩ := best_ex (L := L) (S := fun v => sumsTo n L [] v) (j := k) (t := n) (i := 0) (b := none) (fun x _ hx hneg => by
    obtain ⟨c, w, hc, _⟩ := hf x (by omega) hneg
    exact ⟨c, hc⟩)
  have hr := h2 (.inl hn1)
  cases r with
  | none => exact absurd rfl hr
  | some c =>
    rcases h3 c rfl with h4 | ⟨x, _, hx, hneg, hx3⟩
    · cases h4
    · have hlen := fst_len hx3
      obtain ⟨c2, w2, e2, e3, e4⟩ := hf x (by omega) hneg
      have : c = c2 := Option.some.inj (hx3.symm.trans e2)
      subst this
      exact ⟨c, h1, ⟨x, w2, e4, by omega⟩, by omega, by omega, fun r x w hr hw => by rw [hlen]; exact hmin r x w hr hw⟩
end Ch
