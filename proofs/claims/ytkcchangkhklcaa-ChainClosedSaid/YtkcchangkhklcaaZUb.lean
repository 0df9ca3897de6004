/- Package chain, mirrored: a bound is the least sum of the chains, and Chain finds a shortest one that has it. -/
import Derived.Test.YtkcchangkhklcaaZUa
set_option linter.unusedSimpArgs false
set_option linter.unusedVariables false
namespace Ch

/-- what is known of the bounds to the node v, in a system with a solution -/
structure BT (n : Nat) (L : List Lk) (drop : List Bool) (v : Nat) (s : List Int) : Prop where
  len : s.length = n
  zero : s.getD v 0 = 0
  hi : ∀ i, i < n → s.getD i 0 = free ∨ s.getD i 0 ≤ 265712378014859264
  lo : ∀ i, i < n → -265712378014859264 ≤ s.getD i 0
  up : ∀ {l : List Nat} {u w : Int}, way L drop u l v w → s.getD u.toNat 0 ≤ w ∧ s.getD u.toNat 0 ≠ free
  at' : ∀ i, i < n → s.getD i 0 ≠ free → ∃ l : List Nat, l.length < n ∧ way L drop i l v (s.getD i 0)
  sol : ∀ σ, Sol L drop σ → ∀ i, i < n → s.getD i 0 = free ∨ σ i ≤ σ v + s.getD i 0
  links : ∀ i, i < n → s.getD i 0 = free ∨ ∀ l ∈ linksInto L drop i, s.getD l.f.toNat 0 ≤ s.getD i 0 + l.m

theorem bt_spec {n : Nat} (h1 : 1 ≤ n) (h2 : n ≤ 60) {L : List Lk} {drop : List Bool} (hok : ∀ j, j < L.length → okLk n (L.getD j noLk) = true) {k v : Nat} (hv : v < n) {s : List Int} (h : boundsTo n L drop k v = some (some s)) (hσ : ∃ σ, Sol L drop σ) : BT n L drop v s := by
  obtain ⟨σ, hσ⟩ := hσ
  have hf := settleGo_finds hok ((begin_to n v).wf h1 h2) ((begin_to n v).rx h2 L drop) h
  obtain ⟨b1, b2⟩ := boundsTo_spec h1 h2 hok h
  have hs0 : s.getD v 0 ≤ 0 := by
    have h3 := hf.2.1 v hv
    have h4 : ((unbound n).set v 0).getD v 0 = 0 := set_same (by unfold unbound; rw [List.length_replicate]; exact hv)
    rw [show (settle0 ((unbound n).set v 0)).s = (unbound n).set v 0 from rfl, h4] at h3
    exact h3
  have hz : s.getD v 0 = 0 := by
    rcases b2 σ hσ v hv with h3 | h3
    · unfold free at h3; omega
    · omega
  have hat : ∀ i, i < n → s.getD i 0 ≠ free → ∃ l : List Nat, l.length < n ∧ way L drop i l v (s.getD i 0) := fun i hi hs => bt_way h1 h2 hok h hi hs
  have hup : ∀ {l : List Nat} {u w : Int}, way L drop u l v w → s.getD u.toNat 0 ≤ w ∧ s.getD u.toNat 0 ≠ free := by
    intro l
    induction l with
    | nil =>
      intro u w hw
      obtain ⟨rfl, rfl⟩ := hw
      rw [show (v : Int).toNat = v from rfl, hz]
      exact ⟨Int.le_refl _, by decide⟩
    | cons i r ih =>
      intro u w hw
      obtain ⟨h0, hd, hf', ht⟩ := hw
      obtain ⟨i1, i2⟩ := ih ht
      obtain ⟨f0, f1, t0, t1, _, m0, m1⟩ := okLk_spec (hok i h0)
      have h5 := ((b1 (L.getD i noLk).t.toNat (by omega)).resolve_left i2) _ (mem_links h0 hd t0)
      have h6 := ((b2 σ hσ (L.getD i noLk).t.toNat (by omega)).resolve_left i2).1
      rw [hf'] at h5
      exact ⟨by omega, by unfold free; omega⟩
  refine ⟨hf.2.2, hz, fun i hi => (b2 σ hσ i hi).imp id (·.1), fun i hi => ?_, hup, hat, fun σ hσ i hi => (b2 σ hσ i hi).imp id (·.2), b1⟩
  by_cases e : s.getD i 0 = free
  · rw [e]; unfold free; omega
  · obtain ⟨l, hl, hw⟩ := hat i hi e
    have := (way_small hok hw).1
    omega

/-- the sums of k links against the bound -/
theorem BT.sums {n : Nat} {L : List Lk} {drop : List Bool} {v : Nat} {s : List Int} (h : BT n L drop v s) (hok : ∀ j, j < L.length → okLk n (L.getD j noLk) = true) {k u : Nat} (hu : u < n) (hs : (sumsTo n L drop v k).getD u 0 ≠ free) : s.getD u 0 ≤ (sumsTo n L drop v k).getD u 0 := by
  obtain ⟨l, _, hw⟩ := sums_way hok k hu hs
  exact (h.up hw).1
/-- a chain whose sum is the bound: sumsTo finds the bound with as many links -/
theorem BT.reach {n : Nat} {L : List Lk} {drop : List Bool} {v : Nat} (hv : v < n) {s : List Int} (h : BT n L drop v s) (hok : ∀ j, j < L.length → okLk n (L.getD j noLk) = true) {u : Nat} (hu : u < n) {l : List Nat} (hl : l.length ≤ 200) (hw : way L drop u l v (s.getD u 0)) : (sumsTo n L drop v l.length).getD u 0 = s.getD u 0 := by
  have h1 := sums_le hok hv hl hw
  have h2 := way_small hok hw
  rw [show (u : Int).toNat = u from rfl] at h1
  have h3 := h.sums hok hu (k := l.length) (by unfold free; omega)
  omega

/-- a chain of k links with a sum of at most 'most': firstChain finds one -/
theorem fst_ex {n : Nat} {L : List Lk} (hok : ∀ j, j < L.length → okLk n (L.getD j noLk) = true) {v : Nat} (hv : v < n) : ∀ (k : Nat) {u most : Int}, 0 ≤ u → u < n → k ≤ 100 → most + 4503599627370496 * (k : Int) < 1152921504606846976 → (sumsTo n L [] v k).getD u.toNat 0 ≤ most →
    ∃ l w, fst L (sumsTo n L [] v) k u most = some l ∧ w ≤ most ∧ way L [] u l v w
  | 0, u, most, h0, h1, _, hm, hs => by
    have hs : ((unbound n).set v 0).getD u.toNat 0 ≤ most := hs
    by_cases e : v = u.toNat
    · subst e
      rw [set_same (by unfold unbound; rw [List.length_replicate]; exact hv)] at hs
      exact ⟨[], 0, rfl, hs, by omega, rfl⟩
    · rw [set_other e, unb_at (by omega)] at hs
      unfold free at hs
      omega
  | k + 1, u, most, h0, h1, hk, hm, hs => by
    obtain ⟨l, hl, hw⟩ := sums_way hok (k + 1) (u := u.toNat) (v := v) (drop := []) (by omega) (by unfold free; omega)
    rw [show ((u.toNat : Nat) : Int) = u by omega] at hw
    cases l with
    | nil => cases hl
    | cons i r =>
      obtain ⟨g0, gd, gf, gt⟩ := hw
      have hr : r.length = k := by simpa using hl
      obtain ⟨f0, f1, t0, t1, _, m0, m1⟩ := okLk_spec (hok i g0)
      have hle := sums_le hok hv (by omega) gt
      rw [hr] at hle
      have hcan : canLk (sumsTo n L [] v k) u most (L.getD i noLk) = true := by
        unfold canLk
        rw [Bool.and_eq_true, beq_iff_eq, decide_eq_true_eq]
        exact ⟨gf, by omega⟩
      obtain ⟨j, hj⟩ : ∃ j, idx (canLk (sumsTo n L [] v k) u most) L 0 = some j := by
        clear hs hle gt
        have : ∀ (M : List Lk) (p : Lk → Bool) (a i : Nat), i < M.length → p (M.getD i noLk) = true → ∃ j, idx p M a = some j := by
          intro M p
          induction M with
          | nil => intro a i hi; simp at hi
          | cons m M ih =>
            intro a i hi hp
            rw [idx]
            split
            · exact ⟨a, rfl⟩
            · rename_i h3
              cases i with
              | zero => exact absurd hp h3
              | succ i => exact ih (a + 1) i (by simpa using hi) hp
        exact this L _ 0 i g0 hcan
      obtain ⟨_, hjl, hjp⟩ := idx_some hj
      rw [Nat.sub_zero] at hjp
      unfold canLk at hjp
      rw [Bool.and_eq_true, beq_iff_eq, decide_eq_true_eq] at hjp
      have hjL : j < L.length := by omega
      obtain ⟨_, _, jt0, jt1, _, jm0, jm1⟩ := okLk_spec (hok j hjL)
      obtain ⟨l2, w2, e2, hw2, hway⟩ := fst_ex hok hv k (u := (L.getD j noLk).t) (most := most - (L.getD j noLk).m) jt0 jt1 (by omega) (by omega) hjp.2
      refine ⟨j :: l2, w2 + (L.getD j noLk).m, ?_, by omega, hjL, rfl, hjp.1, ?_⟩
      · rw [fst, hj]
        simp only
        rw [e2]
        rfl
      · rw [show w2 + (L.getD j noLk).m - (L.getD j noLk).m = w2 by omega]
        exact hway

theorem lnk_ex {S : Nat → List Int} {u : Nat} {b : Int} : ∀ {t j q : Nat}, j ≤ q → q < j + t → (S q).getD u 0 = b → ∃ r, lnk S u b t j = some r ∧ r ≤ q ∧ (S r).getD u 0 = b
  | 0, j, q, h1, h2, _ => absurd h2 (by omega)
  | t + 1, j, q, h1, h2, h => by
    rw [lnk]
    by_cases e : (S j).getD u 0 = b
    · rw [if_pos e]; exact ⟨j, rfl, h1, e⟩
    · rw [if_neg e]
      have : j ≠ q := fun e2 => e (by rw [e2]; exact h)
      exact lnk_ex (by omega) (by omega) h

/-- Chain always answers; if it finds a chain, it is a shortest one with the bound as its sum -/
theorem chain_ex {n : Int} {L : List Lk} {k : Nat} (hE : (check n L).1 = 0 → enough n.toNat L [] k = true) (hC : (check n L).1 = 0 → cons n.toNat L [] k = true → ∃ σ, Sol L [] σ) (u v : Int) :
    ∃ l er, chain n L k u v = some (l, er) ∧ er = (bound n L k u v).2 ∧ (er ≠ 0 → l = []) ∧ (er = 0 → way L [] u l v (bound n L k u v).1 ∧ (l.length : Int) < n ∧ ∀ r, way L [] u r v (bound n L k u v).1 → l.length ≤ r.length) := by
  unfold chain bound
  by_cases h1 : opn n L [u, v] k = 0
  · have h1' : ¬ opn n L [u, v] k ≠ 0 := fun h => h h1
    rw [if_neg h1', if_neg h1']
    obtain ⟨c1, c2, c3⟩ := opn_ok h1
    obtain ⟨n1, n2, _, hok⟩ := check_ok c1
    simp [isIx] at c2
    have hN : ((n.toNat : Nat) : Int) = n := by omega
    have hok' : ∀ j, j < L.length → okLk n.toNat (L.getD j noLk) = true := by rw [hN]; exact hok
    obtain ⟨b1, b2, b3⟩ := enough_bt (hE c1) c3 (v := v.toNat) (by omega)
    have hB := bt_spec (by omega) (by omega) hok' (by omega) b1 (hC c1 c3)
    generalize bt n.toNat L [] k v.toNat = s at *
    by_cases hfr : s.getD u.toNat 0 = free
    · rw [if_pos hfr, if_pos hfr]
      exact ⟨[], 5, rfl, rfl, fun _ => rfl, fun h => by cases h⟩
    · rw [if_neg hfr, if_neg hfr]
      obtain ⟨l, hl, hw⟩ := hB.at' u.toNat (by omega) hfr
      have hq := hB.reach (by omega) hok' (by omega) (by omega) hw
      obtain ⟨r, hr, hrq, hrs⟩ := lnk_ex (S := sumsTo n.toNat L [] v.toNat) (t := 61) (j := 0) (Nat.zero_le _) (by omega) hq
      rw [hr]
      simp only
      have hhi := (hB.hi u.toNat (by omega)).resolve_left hfr
      obtain ⟨c, w, e1, e2, e3⟩ := fst_ex hok' (v := v.toNat) (by omega) r (u := u) (most := s.getD u.toNat 0) (by omega) (by omega) (by omega) (by omega) (by rw [hrs]; exact Int.le_refl _)
      rw [show ((v.toNat : Nat) : Int) = v by omega] at e3 hw
      have e4 := (hB.up (by rw [show ((v.toNat : Nat) : Int) = v by omega]; exact e3)).1
      have e5 : w = s.getD u.toNat 0 := by omega
      rw [e5] at e3
      have hcl : c.length = r := fst_len e1
      refine ⟨c, 0, by rw [e1]; rfl, rfl, fun h => absurd rfl h, fun _ => ⟨e3, by omega, fun x hx => ?_⟩⟩
      by_cases hx60 : x.length ≤ 60
      · have hq2 := hB.reach (by omega) hok' (u := u.toNat) (by omega) (l := x) (by omega) (by rw [show ((u.toNat : Nat) : Int) = u by omega, show ((v.toNat : Nat) : Int) = v by omega]; exact hx)
        obtain ⟨r2, hr2, hrq2, _⟩ := lnk_ex (S := sumsTo n.toNat L [] v.toNat) (t := 61) (j := 0) (Nat.zero_le _) (by omega) hq2
        rw [hr] at hr2
        obtain rfl := Option.some.inj hr2
        omega
      · omega
  · rw [if_pos h1, if_pos h1]
    exact ⟨[], opn n L [u, v] k, rfl, rfl, fun _ => rfl, fun h => absurd h h1⟩
end Ch
