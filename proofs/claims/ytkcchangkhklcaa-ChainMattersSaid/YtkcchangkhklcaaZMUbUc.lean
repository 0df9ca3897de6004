/- Several texts one behind the other. -/
import Derived.Test.YtkcchangkhklcaaZUa
import Derived.Test.YtkcchangkhklcaaZMFxFw
set_option linter.unusedSimpArgs false
set_option linter.unusedVariables false
/- Package chain, mirrored: a bound is the least sum of the chains, and Chain finds a shortest one that has it. -/
namespace Ch

/-- what is known of the bounds to the node v, in a system with a solution -/
structure BT (n : Nat) (L : List Lk) (drop : List Bool) (v : Nat) (s : List Int) : Prop where
  len : s.length = n
  zero : s.getD v 0 = 0
  hi : ∀ i, i < n → s.getD i 0 = free ∨ s.getD i 0 ≤ 265712378014859264
  lo : ∀ i, i < n → -265712378014859264 ≤ s.getD i 0
  up : ∀ {l : List Nat} {u w : Int}, way L drop u l v w → s.getD u.toNat 0 ≤ w ∧ s.getD u.toNat 0 ≠ free
  at' : ∀ i, i < n → s.getD i 0 ≠ free → ∃ l : List Nat, l.length < n ∧ way L drop i l v (s.getD i 0)
  sol : ∀ σ, Sol L drop σ → ∀ i, i < n → s.getD i 0 = free ∨ σ i ≤ σ v + s.getD i 0
  links : ∀ i, i < n → s.getD i 0 = free ∨ ∀ l ∈ linksInto L drop i, s.getD l.f.toNat 0 ≤ s.getD i 0 + l.m

theorem bt_spec {n : Nat} (h1 : 1 ≤ n) (h2 : n ≤ 60) {L : List Lk} {drop : List Bool} (hok : ∀ j, j < L.length → okLk n (L.getD j noLk) = true) {k v : Nat} (hv : v < n) {s : List Int} (h : boundsTo n L drop k v = some (some s)) (hσ : ∃ σ, Sol L drop σ) : BT n L drop v s := by
  obtain ⟨σ, hσ⟩ := hσ
  have hf := settleGo_finds hok ((begin_to n v).wf h1 h2) ((begin_to n v).rx h2 L drop) h
  obtain ⟨b1, b2⟩ := boundsTo_spec h1 h2 hok h
  have hs0 : s.getD v 0 ≤ 0 := by
    have h3 := hf.2.1 v hv
    have h4 : ((unbound n).set v 0).getD v 0 = 0 := set_same (by unfold unbound; rw [List.length_replicate]; exact hv)
    rw [show (settle0 ((unbound n).set v 0)).s = (unbound n).set v 0 from rfl, h4] at h3
    exact h3
  have hz : s.getD v 0 = 0 := by
    rcases b2 σ hσ v hv with h3 | h3
    · unfold free at h3; omega
    · omega
  have hat : ∀ i, i < n → s.getD i 0 ≠ free → ∃ l : List Nat, l.length < n ∧ way L drop i l v (s.getD i 0) := fun i hi hs => bt_way h1 h2 hok h hi hs
  have hup : ∀ {l : List Nat} {u w : Int}, way L drop u l v w → s.getD u.toNat 0 ≤ w ∧ s.getD u.toNat 0 ≠ free := by
    intro l
    induction l with
    | nil =>
      intro u w hw
      obtain ⟨rfl, rfl⟩ := hw
      rw [show (v : Int).toNat = v from rfl, hz]
      exact ⟨Int.le_refl _, by decide⟩
    | cons i r ih =>
      intro u w hw
      obtain ⟨h0, hd, hf', ht⟩ := hw
      obtain ⟨i1, i2⟩ := ih ht
      obtain ⟨f0, f1, t0, t1, _, m0, m1⟩ := okLk_spec (hok i h0)
      have h5 := ((b1 (L.getD i noLk).t.toNat (by omega)).resolve_left i2) _ (mem_links h0 hd t0)
      have h6 := ((b2 σ hσ (L.getD i noLk).t.toNat (by omega)).resolve_left i2).1
      rw [hf'] at h5
      exact ⟨by omega, by unfold free; omega⟩
  refine ⟨hf.2.2, hz, fun i hi => (b2 σ hσ i hi).imp id (·.1), fun i hi => ?_, hup, hat, fun σ hσ i hi => (b2 σ hσ i hi).imp id (·.2), b1⟩
  by_cases e : s.getD i 0 = free
  · rw [e]; unfold free; omega
  · obtain ⟨l, hl, hw⟩ := hat i hi e
    have := (way_small hok hw).1
    omega

/-- the sums of k links against the bound -/
theorem BT.sums {n : Nat} {L : List Lk} {drop : List Bool} {v : Nat} {s : List Int} (h : BT n L drop v s) (hok : ∀ j, j < L.length → okLk n (L.getD j noLk) = true) {k u : Nat} (hu : u < n) (hs : (sumsTo n L drop v k).getD u 0 ≠ free) : s.getD u 0 ≤ (sumsTo n L drop v k).getD u 0 := by
  obtain ⟨l, _, hw⟩ := sums_way hok k hu hs
  exact (h.up hw).1
/-- a chain whose sum is the bound: sumsTo finds the bound with as many links -/
theorem BT.reach {n : Nat} {L : List Lk} {drop : List Bool} {v : Nat} (hv : v < n) {s : List Int} (h : BT n L drop v s) (hok : ∀ j, j < L.length → okLk n (L.getD j noLk) = true) {u : Nat} (hu : u < n) {l : List Nat} (hl : l.length ≤ 200) (hw : way L drop u l v (s.getD u 0)) : (sumsTo n L drop v l.length).getD u 0 = s.getD u 0 := by
  have h1 := sums_le hok hv hl hw
  have h2 := way_small hok hw
  rw [show (u : Int).toNat = u from rfl] at h1
  have h3 := h.sums hok hu (k := l.length) (by unfold free; omega)
  omega

/-- a chain of k links with a sum of at most 'most': firstChain finds one -/
theorem fst_ex {n : Nat} {L : List Lk} (hok : ∀ j, j < L.length → okLk n (L.getD j noLk) = true) {v : Nat} (hv : v < n) : ∀ (k : Nat) {u most : Int}, 0 ≤ u → u < n → k ≤ 100 → most + 4503599627370496 * (k : Int) < 1152921504606846976 → (sumsTo n L [] v k).getD u.toNat 0 ≤ most →
    ∃ l w, fst L (sumsTo n L [] v) k u most = some l ∧ w ≤ most ∧ way L [] u l v w
  | 0, u, most, h0, h1, _, hm, hs => by
    have hs : ((unbound n).set v 0).getD u.toNat 0 ≤ most := hs
    by_cases e : v = u.toNat
    · subst e
      rw [set_same (by unfold unbound; rw [List.length_replicate]; exact hv)] at hs
      exact ⟨[], 0, rfl, hs, by omega, rfl⟩
    · rw [set_other e, unb_at (by omega)] at hs
      unfold free at hs
      omega
  | k + 1, u, most, h0, h1, hk, hm, hs => by
    obtain ⟨l, hl, hw⟩ := sums_way hok (k + 1) (u := u.toNat) (v := v) (drop := []) (by omega) (by unfold free; omega)
    rw [show ((u.toNat : Nat) : Int) = u by omega] at hw
    cases l with
    | nil => cases hl
    | cons i r =>
      obtain ⟨g0, gd, gf, gt⟩ := hw
      have hr : r.length = k := by simpa using hl
      obtain ⟨f0, f1, t0, t1, _, m0, m1⟩ := okLk_spec (hok i g0)
      have hle := sums_le hok hv (by omega) gt
      rw [hr] at hle
      have hcan : canLk (sumsTo n L [] v k) u most (L.getD i noLk) = true := by
        unfold canLk
        rw [Bool.and_eq_true, beq_iff_eq, decide_eq_true_eq]
        exact ⟨gf, by omega⟩
      obtain ⟨j, hj⟩ : ∃ j, idx (canLk (sumsTo n L [] v k) u most) L 0 = some j := by
        clear hs hle gt
        have : ∀ (M : List Lk) (p : Lk → Bool) (a i : Nat), i < M.length → p (M.getD i noLk) = true → ∃ j, idx p M a = some j := by
          intro M p
          induction M with
          | nil => intro a i hi; simp at hi
          | cons m M ih =>
            intro a i hi hp
            rw [idx]
            split
            · exact ⟨a, rfl⟩
            · rename_i h3
              cases i with
              | zero => exact absurd hp h3
              | succ i => exact ih (a + 1) i (by simpa using hi) hp
        exact this L _ 0 i g0 hcan
      obtain ⟨_, hjl, hjp⟩ := idx_some hj
      rw [Nat.sub_zero] at hjp
      unfold canLk at hjp
      rw [Bool.and_eq_true, beq_iff_eq, decide_eq_true_eq] at hjp
      have hjL : j < L.length := by omega
      obtain ⟨_, _, jt0, jt1, _, jm0, jm1⟩ := okLk_spec (hok j hjL)
      obtain ⟨l2, w2, e2, hw2, hway⟩ := fst_ex hok hv k (u := (L.getD j noLk).t) (most := most - (L.getD j noLk).m) jt0 jt1 (by omega) (by omega) hjp.2
      refine ⟨j :: l2, w2 + (L.getD j noLk).m, ?_, by omega, hjL, rfl, hjp.1, ?_⟩
      · rw [fst, hj]
        simp only
        rw [e2]
        rfl
      · rw [show w2 + (L.getD j noLk).m - (L.getD j noLk).m = w2 by omega]
        exact hway

theorem lnk_ex {S : Nat → List Int} {u : Nat} {b : Int} : ∀ {t j q : Nat}, j ≤ q → q < j + t → (S q).getD u 0 = b → ∃ r, lnk S u b t j = some r ∧ r ≤ q ∧ (S r).getD u 0 = b
  | 0, j, q, h1, h2, _ => absurd h2 (by omega)
  | t + 1, j, q, h1, h2, h => by
    rw [lnk]
    by_cases e : (S j).getD u 0 = b
    · rw [if_pos e]; exact ⟨j, rfl, h1, e⟩
    · rw [if_neg e]
      have : j ≠ q := fun e2 => e (by rw [e2]; exact h)
      exact lnk_ex (by omega) (by omega) h

/-- Chain always answers; if it finds a chain, it is a shortest one with the bound as its sum -/
theorem chain_ex {n : Int} {L : List Lk} {k : Nat} (hE : (check n L).1 = 0 → enough n.toNat L [] k = true) (hC : (check n L).1 = 0 → cons n.toNat L [] k = true → ∃ σ, Sol L [] σ) (u v : Int) :
    ∃ l er, chain n L k u v = some (l, er) ∧ er = (bound n L k u v).2 ∧ (er ≠ 0 → l = []) ∧ (er = 0 → way L [] u l v (bound n L k u v).1 ∧ (l.length : Int) < n ∧ ∀ r, way L [] u r v (bound n L k u v).1 → l.length ≤ r.length) := by
  unfold chain bound
  by_cases h1 : opn n L [u, v] k = 0
  · have h1' : ¬ opn n L [u, v] k ≠ 0 := fun h => h h1
    rw [if_neg h1', if_neg h1']
    obtain ⟨c1, c2, c3⟩ := opn_ok h1
    obtain ⟨n1, n2, _, hok⟩ := check_ok c1
    simp [isIx] at c2
    have hN : ((n.toNat : Nat) : Int) = n := by omega
    have hok' : ∀ j, j < L.length → okLk n.toNat (L.getD j noLk) = true := by rw [hN]; exact hok
    obtain ⟨b1, b2, b3⟩ := enough_bt (hE c1) c3 (v := v.toNat) (by omega)
    have hB := bt_spec (by omega) (by omega) hok' (by omega) b1 (hC c1 c3)
    generalize bt n.toNat L [] k v.toNat = s at *
    by_cases hfr : s.getD u.toNat 0 = free
    · rw [if_pos hfr, if_pos hfr]
      exact ⟨[], 5, rfl, rfl, fun _ => rfl, fun h => by cases h⟩
    · rw [if_neg hfr, if_neg hfr]
      obtain ⟨l, hl, hw⟩ := hB.at' u.toNat (by omega) hfr
      have hq := hB.reach (by omega) hok' (by omega) (by omega) hw
      obtain ⟨r, hr, hrq, hrs⟩ := lnk_ex (S := sumsTo n.toNat L [] v.toNat) (t := 61) (j := 0) (Nat.zero_le _) (by omega) hq
      rw [hr]
      simp only
      have hhi := (hB.hi u.toNat (by omega)).resolve_left hfr
      obtain ⟨c, w, e1, e2, e3⟩ := fst_ex hok' (v := v.toNat) (by omega) r (u := u) (most := s.getD u.toNat 0) (by omega) (by omega) (by omega) (by omega) (by rw [hrs]; exact Int.le_refl _)
      rw [show ((v.toNat : Nat) : Int) = v by omega] at e3 hw
      have e4 := (hB.up (by rw [show ((v.toNat : Nat) : Int) = v by omega]; exact e3)).1
      have e5 : w = s.getD u.toNat 0 := by omega
      rw [e5] at e3
      have hcl : c.length = r := fst_len e1
      refine ⟨c, 0, by rw [e1]; rfl, rfl, fun h => absurd rfl h, fun _ => ⟨e3, by omega, fun x hx => ?_⟩⟩
      by_cases hx60 : x.length ≤ 60
      · have hq2 := hB.reach (by omega) hok' (u := u.toNat) (by omega) (l := x) (by omega) (by rw [show ((u.toNat : Nat) : Int) = u by omega, show ((v.toNat : Nat) : Int) = v by omega]; exact hx)
        obtain ⟨r2, hr2, hrq2, _⟩ := lnk_ex (S := sumsTo n.toNat L [] v.toNat) (t := 61) (j := 0) (Nat.zero_le _) (by omega) hq2
        rw [hr] at hr2
        obtain rfl := Option.some.inj hr2
        omega
      · omega
  · rw [if_pos h1, if_pos h1]
    exact ⟨[], opn n L [u, v] k, rfl, rfl, fun _ => rfl, fun h => absurd h h1⟩
end Ch

/- Package chain, mirrored: a system without a solution has a closed chain below 0, and Clash finds a shortest one. -/
namespace Ch

theorem dup_split {g : Nat → Nat} : ∀ {l : List Nat}, ¬ (l.map g).Nodup → ∃ a i b j c, l = a ++ (i :: b) ++ (j :: c) ∧ g i = g j
  | [], h => absurd List.nodup_nil h
  | x :: r, h => by
    by_cases hr : (r.map g).Nodup
    · have hx : g x ∈ r.map g := by
        refine Classical.byContradiction fun hn => h ?_
        rw [List.map_cons]
        exact List.nodup_cons.2 ⟨hn, hr⟩
      obtain ⟨j, hj, he⟩ := List.mem_map.1 hx
      obtain ⟨b, c, rfl⟩ := List.append_of_mem hj
      exact ⟨[], x, b, j, c, rfl, he.symm⟩
    · obtain ⟨a, i, b, j, c, rfl, he⟩ := dup_split hr
      exact ⟨x :: a, i, b, j, c, rfl, he⟩

theorem way_start {L : List Lk} {drop : List Bool} {u v w : Int} {i : Nat} {r : List Nat} (h : way L drop u (i :: r) v w) : (L.getD i noLk).f = u := h.2.2.1
theorem way_all {L : List Lk} {drop : List Bool} : ∀ {l : List Nat} {u v w : Int}, way L drop u l v w → ∀ i ∈ l, i < L.length
  | [], _, _, _, _, i, hi => absurd hi List.not_mem_nil
  | i :: r, _, _, _, h, k, hk => by
    rcases List.mem_cons.1 hk with rfl | hk
    · exact h.1
    · exact way_all h.2.2.2 k hk

/-- a chain with more links than there are nodes goes round -/
theorem way_cut {n : Nat} {L : List Lk} {drop : List Bool} (hok : ∀ j, j < L.length → okLk n (L.getD j noLk) = true) {l : List Nat} {u v w : Int} (h : way L drop u l v w) (hl : n < l.length) :
    ∃ x z p q, way L drop x p x z ∧ p ≠ [] ∧ q ≠ [] ∧ p.length + q.length = l.length ∧ way L drop u q v (w - z) := by
  have hd : ¬ (l.map fun i => (L.getD i noLk).f.toNat).Nodup := fun hd => by
    have := nodup_len n _ hd (fun x hx => by
      obtain ⟨i, hi, rfl⟩ := List.mem_map.1 hx
      have := okLk_spec (hok i (way_all h i hi))
      omega)
    rw [List.length_map] at this
    omega
  obtain ⟨a, i, b, j, c, rfl, he⟩ := dup_split hd
  have hi := way_all h i (by simp)
  have hj := way_all h j (by simp)
  obtain ⟨x, s, h1, h2⟩ := way_split h
  obtain ⟨y, t, h3, h4⟩ := way_split h1
  have e1 := way_start h4
  have e2 := way_start h2
  obtain ⟨i0, _⟩ := okLk_spec (hok i hi)
  obtain ⟨j0, _⟩ := okLk_spec (hok j hj)
  have exy : x = y := by omega
  subst exy
  refine ⟨x, s - t, i :: b, a ++ (j :: c), h4, by simp, by simp, by simp; omega, ?_⟩
  have := way_append h3 h2
  rw [show w - (s - t) = t + (w - s) by omega]
  exact this

/-- a closed chain below 0: then one with no more links than there are nodes -/
theorem neg_short {n : Nat} {L : List Lk} {drop : List Bool} (hok : ∀ j, j < L.length → okLk n (L.getD j noLk) = true) : ∀ (m : Nat) {l : List Nat} {u w : Int}, l.length ≤ m → way L drop u l u w → w < 0 → ∃ x q z, way L drop x q x z ∧ z < 0 ∧ 1 ≤ q.length ∧ q.length ≤ n ∧ q.length ≤ l.length
  | 0, l, u, w, hm, h, hw => by
    obtain rfl : l = [] := List.eq_nil_of_length_eq_zero (by omega)
    exact absurd h.2 (by omega)
  | m + 1, l, u, w, hm, h, hw => by
    by_cases hl : l.length ≤ n
    · refine ⟨u, l, w, h, hw, ?_, hl, Nat.le_refl _⟩
      cases l with
      | nil => exact absurd h.2 (by omega)
      | cons i r => simp
    · obtain ⟨x, z, p, q, h1, hp, hq, hlen, h2⟩ := way_cut hok h (by omega)
      have hp1 : 1 ≤ p.length := by cases p with
        | nil => exact absurd rfl hp
        | cons => simp
      have hq1 : 1 ≤ q.length := by cases q with
        | nil => exact absurd rfl hq
        | cons => simp
      by_cases hz : z < 0
      · obtain ⟨x', q', z', g1, g2, g3, g4, g5⟩ := neg_short hok m (by omega) h1 hz
        exact ⟨x', q', z', g1, g2, g3, g4, by omega⟩
      · obtain ⟨x', q', z', g1, g2, g3, g4, g5⟩ := neg_short hok m (by omega) h2 (by omega)
        exact ⟨x', q', z', g1, g2, g3, g4, by omega⟩

/-! ### the table's entries are sums of chains -/
theorem fyK_way {n : Nat} {L : List Lk} (hok : ∀ j, j < L.length → okLk n (L.getD j noLk) = true) : ∀ k, k ≤ L.length → ∀ u v z, fyK L k u v = some z → ∃ l, way L [] (u : Nat) l (v : Nat) z
  | 0, _, u, v, z, h => by
    unfold fyK at h
    split at h
    · rename_i e
      cases h
      exact ⟨[], by omega, rfl⟩
    · cases h
  | k + 1, hk, u, v, z, h => by
    rcases fyLink_new h with h1 | ⟨rfl, rfl, rfl⟩
    · exact fyK_way hok k (by omega) u v z h1
    · obtain ⟨f0, _, t0, _⟩ := okLk_spec (hok k (by omega))
      have := way_one (L := L) (drop := []) (i := k) (by omega) rfl
      refine ⟨[k], ?_⟩
      rw [show (((L.getD k noLk).f.toNat : Nat) : Int) = (L.getD k noLk).f by omega, show (((L.getD k noLk).t.toNat : Nat) : Int) = (L.getD k noLk).t by omega]
      exact this
theorem fyR_way {n : Nat} {L : List Lk} (hok : ∀ j, j < L.length → okLk n (L.getD j noLk) = true) : ∀ k u v z, fyR L k u v = some z → ∃ l, way L [] (u : Nat) l (v : Nat) z
  | 0, u, v, z, h => fyK_way hok _ (Nat.le_refl _) u v z h
  | k + 1, u, v, z, h => by
    rcases fy_new h with h1 | ⟨x, y, h1, h2, rfl⟩
    · exact fyR_way hok k u v z h1
    · obtain ⟨l, hl⟩ := fyR_way hok k _ _ _ h1
      obtain ⟨r, hr⟩ := fyR_way hok k _ _ _ h2
      exact ⟨l ++ r, way_append hl hr⟩

/-- no solution: a closed chain below 0 -/
theorem no_sol_way {n : Nat} {L : List Lk} (hok : ∀ j, j < L.length → okLk n (L.getD j noLk) = true) (h : ¬ ∃ σ, Sol L [] σ) : ∃ u l w, way L [] u l u w ∧ w < 0 ∧ 1 ≤ l.length ∧ l.length ≤ n := by
  have h1 : ¬ ∀ j u, j ≤ n → u < n → fyR L j u u = some 0 := fun h2 => h ((fyR_ok hok).1 h2)
  have h2 : ∃ j u, j ≤ n ∧ u < n ∧ fyR L j u u ≠ some 0 := by
    refine Classical.byContradiction fun h3 => h1 fun j u hj hu => Classical.byContradiction fun h4 => h3 ⟨j, u, hj, hu, h4⟩
  obtain ⟨j, u, hj, hu, hne⟩ := h2
  obtain ⟨z, hz, hz0⟩ := fyR_diag hok u j
  have hz1 : z ≠ 0 := fun e => hne (by rw [hz, e])
  obtain ⟨l, hl⟩ := fyR_way hok j u u z hz
  obtain ⟨x, q, z', g1, g2, g3, g4, _⟩ := neg_short hok l.length (Nat.le_refl _) hl (by omega)
  exact ⟨x, q, z', g1, g2, g3, g4⟩
/-- with a solution no closed chain lies below 0 -/
theorem sol_no_neg {n : Nat} {L : List Lk} {drop : List Bool} {σ : Nat → Int} (hok : ∀ j, j < L.length → okLk n (L.getD j noLk) = true) (hσ : Sol L drop σ) {l : List Nat} {u w : Int} (h : way L drop u l u w) : 0 ≤ w := by
  have := way_sol hok hσ h
  omega

/-! ### Clash -/
theorem neg_iff {S : Nat → Nat → List Int} {j : Nat} : ∀ {t i : Nat}, neg S j t i = true ↔ ∃ x, i ≤ x ∧ x < i + t ∧ (S x j).getD x 0 < 0
  | 0, i => by
    constructor
    · intro h; cases h
    · rintro ⟨x, h1, h2, _⟩; omega
  | t + 1, i => by
    rw [neg, Bool.or_eq_true, decide_eq_true_eq, neg_iff]
    constructor
    · rintro (h | ⟨x, h1, h2, h3⟩)
      · exact ⟨i, Nat.le_refl _, by omega, h⟩
      · exact ⟨x, by omega, by omega, h3⟩
    · rintro ⟨x, h1, h2, h3⟩
      by_cases e : x = i
      · subst e; exact .inl h3
      · exact .inr ⟨x, by omega, by omega, h3⟩
theorem lnkC_spec {S : Nat → Nat → List Int} {n : Nat} : ∀ {t j m : Nat}, j ≤ m → m ≤ j + t → neg S m n 0 = true → neg S (lnkC S n t j) n 0 = true ∧ lnkC S n t j ≤ m
  | 0, j, m, h1, h2, h => by
    rw [lnkC]
    obtain rfl : m = j := by omega
    exact ⟨h, Nat.le_refl _⟩
  | t + 1, j, m, h1, h2, h => by
    rw [lnkC]
    by_cases e : neg S j n 0 = true
    · rw [if_pos e]; exact ⟨e, h1⟩
    · rw [if_neg e]
      have : m ≠ j := fun e2 => e (by rw [← e2]; exact h)
      exact lnkC_spec (by omega) (by omega) h
theorem best_ex {L : List Lk} {S : Nat → Nat → List Int} {j : Nat} : ∀ {t i : Nat} {b : Option (List Nat)}, (∀ x, i ≤ x → x < i + t → (S x j).getD x 0 < 0 → ∃ l, fst L (S x) j x (-1) = some l) →
    ∃ r, best L S j t i b = some r ∧ (neg S j t i = true ∨ b ≠ none → r ≠ none) ∧ ∀ l, r = some l → b = some l ∨ ∃ x, i ≤ x ∧ x < i + t ∧ (S x j).getD x 0 < 0 ∧ fst L (S x) j x (-1) = some l
  | 0, i, b, _ => ⟨b, rfl, fun h => h.elim (fun h => by cases h) id, fun l h => .inl h⟩
  | t + 1, i, b, h => by
    rw [best, neg]
    by_cases e : 0 ≤ (S i j).getD i 0
    · rw [if_pos e]
      obtain ⟨r, h1, h2, h3⟩ := best_ex (t := t) (i := i + 1) (b := b) (fun x hx hx2 => h x (by omega) (by omega))
      refine ⟨r, h1, fun hh => h2 ?_, fun l hl => (h3 l hl).imp id (fun ⟨x, hx, hx2, hx3⟩ => ⟨x, by omega, by omega, hx3⟩)⟩
      rw [Bool.or_eq_true, decide_eq_true_eq] at hh
      rcases hh with (hh | hh) | hh
      · omega
      · exact .inl hh
      · exact .inr hh
    · rw [if_neg e]
      obtain ⟨c, hc⟩ := h i (Nat.le_refl _) (by omega) (by omega)
      rw [hc]
      obtain ⟨r, h1, h2, h3⟩ := best_ex (t := t) (i := i + 1) (b := some (lesser c b)) (fun x hx hx2 => h x (by omega) (by omega))
      refine ⟨r, h1, fun _ => h2 (.inr (by simp)), fun l hl => ?_⟩
      rcases h3 l hl with h4 | ⟨x, hx, hx2, hx3⟩
      · have h5 : lesser c b = l := Option.some.inj h4
        unfold lesser at h5
        cases b with
        | none => exact .inr ⟨i, Nat.le_refl _, by omega, by omega, by rw [← h5]; exact hc⟩
        | some d =>
          simp only at h5
          split at h5
          · exact .inr ⟨i, Nat.le_refl _, by omega, by omega, by rw [← h5]; exact hc⟩
          · exact .inl (by rw [h5])
      · exact .inr ⟨x, by omega, by omega, hx3⟩

theorem clash_ex {n : Nat} (n2 : n ≤ 60) {L : List Lk} (hok : ∀ j, j < L.length → okLk n (L.getD j noLk) = true) (h : ¬ ∃ σ, Sol L [] σ) :
    ∃ l, clash n L [] = some (some l) ∧ (∃ x w, way L [] x l x w ∧ w < 0) ∧ 1 ≤ l.length ∧ l.length ≤ n ∧ ∀ r x w, way L [] x r x w → w < 0 → l.length ≤ r.length := by
  unfold clash
  have key : ∀ (m : Nat) (r : List Nat) (x w : Int), r.length = m → way L [] x r x w → w < 0 → r.length ≤ n → neg (fun v => sumsTo n L [] v) m n 0 = true := by
    intro m r x w hr hw hw0 hrn
    have hx : 0 ≤ x ∧ x < n := by
      cases r with
      | nil => exact absurd hw.2 (by omega)
      | cons i r =>
        have := okLk_spec (hok i hw.1)
        have e := hw.2.2.1
        omega
    rw [neg_iff]
    refine ⟨x.toNat, Nat.zero_le _, by omega, ?_⟩
    have := sums_le hok (v := x.toNat) (by omega) (l := r) (u := x) (w := w) (by omega) (by rw [show ((x.toNat : Nat) : Int) = x by omega]; exact hw)
    rw [hr] at this
    show (sumsTo n L [] x.toNat m).getD x.toNat 0 < 0
    omega
  obtain ⟨u, l, w, hl, hw0, hl1, hln⟩ := no_sol_way hok h
  have hk := key l.length l u w rfl hl hw0 hln
  obtain ⟨hn1, hle⟩ := lnkC_spec (S := fun v => sumsTo n L [] v) (n := n) (t := n - 1) (j := 1) hl1 (by omega) hk
  have hmin : ∀ r x w, way L [] x r x w → w < 0 → lnkC (fun v => sumsTo n L [] v) n (n - 1) 1 ≤ r.length := by
    intro r x w hr hw
    obtain ⟨x', q, z, g1, g2, g3, g4, g5⟩ := neg_short hok r.length (Nat.le_refl _) hr hw
    have := (lnkC_spec (S := fun v => sumsTo n L [] v) (n := n) (t := n - 1) (j := 1) g3 (by omega) (key q.length q x' z rfl g1 g2 g4)).2
    omega
  have hge := (lnkC_le (S := fun v => sumsTo n L [] v) (n := n) (t := n - 1) (j := 1)).1
  generalize lnkC (fun v => sumsTo n L [] v) n (n - 1) 1 = k at *
  have hf : ∀ x : Nat, x < n → (sumsTo n L [] x k).getD x 0 < 0 → ∃ c w, fst L (sumsTo n L [] x) k x (-1) = some c ∧ w ≤ -1 ∧ way L [] x c x w := by
    intro x hx hneg
    exact fst_ex hok hx k (u := x) (most := -1) (by omega) (by omega) (by omega) (by omega) (by rw [Int.toNat_natCast]; omega)
  obtain ⟨r, h1, h2, h3⟩ := best_ex (L := L) (S := fun v => sumsTo n L [] v) (j := k) (t := n) (i := 0) (b := none) (fun x _ hx hneg => by
    obtain ⟨c, w, hc, _⟩ := hf x (by omega) hneg
    exact ⟨c, hc⟩)
  have hr := h2 (.inl hn1)
  cases r with
  | none => exact absurd rfl hr
  | some c =>
    rcases h3 c rfl with h4 | ⟨x, _, hx, hneg, hx3⟩
    · cases h4
    · have hlen := fst_len hx3
      obtain ⟨c2, w2, e2, e3, e4⟩ := hf x (by omega) hneg
      have : c = c2 := Option.some.inj (hx3.symm.trans e2)
      subst this
      exact ⟨c, h1, ⟨x, w2, e4, by omega⟩, by omega, by omega, fun r x w hr hw => by rw [hlen]; exact hmin r x w hr hw⟩
end Ch
