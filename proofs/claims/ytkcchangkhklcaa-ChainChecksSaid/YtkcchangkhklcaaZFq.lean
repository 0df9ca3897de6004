/- Package chain, mirrored: Chain and Clash as the specification finds them. -/
import Derived.Test.YtkcchangkhklcaaZFu
set_option linter.unusedSimpArgs false
set_option linter.unusedVariables false
namespace Ch

theorem lnk_first {S : Nat → List Int} {u : Nat} {b : Int} : ∀ {t j q : Nat}, lnk S u b t j = some q → (S q).getD u 0 = b ∧ ∀ x, j ≤ x → x < q → (S x).getD u 0 ≠ b
  | 0, _, _, h => by cases h
  | t + 1, j, q, h => by
    rw [lnk] at h
    split at h
    · rename_i e
      obtain rfl := Option.some.inj h
      exact ⟨e, fun x h1 h2 => by omega⟩
    · rename_i e
      obtain ⟨h1, h2⟩ := lnk_first h
      refine ⟨h1, fun x hx hx2 => ?_⟩
      by_cases e2 : x = j
      · rw [e2]; exact e
      · exact h2 x (by omega) hx2
/-- what Chain is made of -/
theorem chain_parts {n : Int} {L : List Lk} {k : Nat} (hE : EN n L k) {u v : Int} {l : List Nat} (h : chain n L k u v = some (l, 0)) :
    opn n L [u, v] k = 0 ∧ (bound n L k u v).2 = 0 ∧ (bound n L k u v).1 = tb n L k u.toNat v.toNat ∧ ∃ j : Nat, (j : Int) < n ∧ (sumsTo n.toNat L [] v.toNat j).getD u.toNat 0 = tb n L k u.toNat v.toNat ∧ (∀ x, x < j → (sumsTo n.toNat L [] v.toNat x).getD u.toNat 0 ≠ tb n L k u.toNat v.toNat) ∧ fst L (sumsTo n.toNat L [] v.toNat) j u (tb n L k u.toNat v.toNat) = some l := by
  unfold chain at h
  by_cases h1 : opn n L [u, v] k = 0
  · have h1' : ¬ opn n L [u, v] k ≠ 0 := fun h => h h1
    rw [if_neg h1'] at h
    by_cases h2 : (bt n.toNat L [] k v.toNat).getD u.toNat 0 = free
    · rw [if_pos h2] at h; cases h
    · rw [if_neg h2] at h
      obtain ⟨c1, hu, hv, hB, _⟩ := opn_at hE h1
      obtain ⟨n1, n2, _, hok⟩ := check_ok c1
      have hok' : ∀ j, j < L.length → okLk n.toNat (L.getD j noLk) = true := by rw [show ((n.toNat : Nat) : Int) = n by omega]; exact hok
      have ht : tb n L k u.toNat v.toNat = (bt n.toNat L [] k v.toNat).getD u.toNat 0 := rfl
      have hb : bound n L k u v = (tb n L k u.toNat v.toNat, 0) := by
        unfold bound
        rw [if_neg h1', if_neg h2, ht]
      rw [ht] at hb
      rw [ht, hb]
      generalize bt n.toNat L [] k v.toNat = s at *
      cases e : lnk (sumsTo n.toNat L [] v.toNat) u.toNat (s.getD u.toNat 0) 61 0 with
      | none => rw [e] at h; cases h
      | some j =>
        rw [e] at h
        simp only at h
        obtain ⟨l', h3, h4⟩ := Option.map_eq_some_iff.1 h
        have h5 : l' = l := (Prod.mk.inj h4).1
        subst h5
        obtain ⟨g1, g2⟩ := lnk_first e
        obtain ⟨q, hq, hw⟩ := hB.at' u.toNat (by omega) h2
        have hr := hB.reach (by omega) hok' (u := u.toNat) (by omega) (l := q) (by omega) hw
        obtain ⟨r, hr1, hr2, _⟩ := lnk_ex (S := sumsTo n.toNat L [] v.toNat) (t := 61) (j := 0) (Nat.zero_le _) (by omega) hr
        rw [e] at hr1
        obtain rfl := Option.some.inj hr1
        exact ⟨h1, rfl, rfl, j, by omega, g1, fun x hx => g2 x (Nat.zero_le _) hx, h3⟩
  · rw [if_pos h1] at h
    have h5 := (Prod.mk.inj (Option.some.inj h)).2
    exact absurd h5 h1

/-! ### Clash -/
theorem cmpI_head {a b : Nat} {r q : List Nat} : (cmpI (ints (a :: r)) (ints (b :: q)) < 0 → a ≤ b) ∧ (¬ cmpI (ints (a :: r)) (ints (b :: q)) < 0 → b ≤ a) := by
  have e1 : ints (a :: r) = (a : Int) :: ints r := rfl
  have e2 : ints (b :: q) = (b : Int) :: ints q := rfl
  rw [e1, e2, cmpI]
  by_cases h : (a : Int) < b
  · rw [if_pos h]
    exact ⟨fun _ => by omega, fun h2 => absurd (by decide) h2⟩
  · rw [if_neg h]
    by_cases h3 : (b : Int) < a
    · rw [if_pos h3]
      exact ⟨fun h2 => absurd h2 (by decide), fun _ => by omega⟩
    · exact ⟨fun _ => by omega, fun _ => by omega⟩
theorem lesser_head {l : List Nat} {b : Option (List Nat)} (hl : l ≠ []) (hb : ∀ d, b = some d → d ≠ []) : (lesser l b) ≠ [] ∧ (lesser l b).headD 0 ≤ l.headD 0 ∧ ∀ d, b = some d → (lesser l b).headD 0 ≤ d.headD 0 := by
  unfold lesser
  cases b with
  | none => exact ⟨hl, Nat.le_refl _, fun d h => by cases h⟩
  | some d =>
    have hd := hb d rfl
    cases l with
    | nil => exact absurd rfl hl
    | cons a r => cases d with
      | nil => exact absurd rfl hd
      | cons b q =>
        obtain ⟨h1, h2⟩ := cmpI_head (a := a) (b := b) (r := r) (q := q)
        simp only
        by_cases h : cmpI (ints (a :: r)) (ints (b :: q)) < 0
        · rw [if_pos h]
          exact ⟨by simp, Nat.le_refl _, fun d h3 => by cases h3; exact h1 h⟩
        · rw [if_neg h]
          exact ⟨by simp, h2 h, fun d h3 => by cases h3; exact Nat.le_refl _⟩
theorem best_min {L : List Lk} {S : Nat → Nat → List Int} {j : Nat} (hj : 1 ≤ j) : ∀ {t i : Nat} {b : Option (List Nat)} {c : List Nat}, (∀ d, b = some d → d ≠ []) → best L S j t i b = some (some c) →
    (∀ x, i ≤ x → x < i + t → (S x j).getD x 0 < 0 → ∀ l, fst L (S x) j x (-1) = some l → c.headD 0 ≤ l.headD 0) ∧ ∀ d, b = some d → c.headD 0 ≤ d.headD 0
  | 0, i, b, c, hb, h => by
    rw [best] at h
    obtain rfl := Option.some.inj h
    exact ⟨fun x h1 h2 => by omega, fun d h => by cases h; exact Nat.le_refl _⟩
  | t + 1, i, b, c, hb, h => by
    rw [best] at h
    by_cases e : 0 ≤ (S i j).getD i 0
    · rw [if_pos e] at h
      obtain ⟨h1, h2⟩ := best_min hj hb h
      refine ⟨fun x hx hx2 hx3 l hl => ?_, h2⟩
      by_cases e2 : x = i
      · subst e2; omega
      · exact h1 x (by omega) (by omega) hx3 l hl
    · rw [if_neg e] at h
      cases hf : fst L (S i) j i (-1) with
      | none => rw [hf] at h; cases h
      | some l0 =>
        rw [hf] at h
        simp only at h
        have hl0 : l0 ≠ [] := fun e => by
          have := fst_len hf
          rw [e] at this
          simp at this
          omega
        obtain ⟨g1, g2, g3⟩ := lesser_head hl0 hb
        obtain ⟨h1, h2⟩ := best_min hj (b := some (lesser l0 b)) (fun d hd => by cases hd; exact g1) h
        have h3 := h2 _ rfl
        refine ⟨fun x hx hx2 hx3 l hl => ?_, fun d hd => Nat.le_trans h3 (g3 d hd)⟩
        by_cases e2 : x = i
        · subst e2
          rw [hf] at hl
          obtain rfl := Option.some.inj hl
          exact Nat.le_trans h3 g2
        · exact h1 x (by omega) (by omega) hx3 l hl
theorem idx_least {p : Lk → Bool} {i j : Nat} : ∀ {L : List Lk} {k : Nat}, idx p L k = some i → k ≤ j → p (L.getD (j - k) noLk) = true → j < k + L.length → i ≤ j
  | [], _, h, _, _, _ => by cases h
  | l :: r, k, h, hk, hp, hj => by
    rw [idx] at h
    split at h
    · obtain rfl := Option.some.inj h; exact hk
    · rename_i h1
      by_cases e : j = k
      · subst e
        rw [Nat.sub_self] at hp
        exact absurd hp h1
      · refine idx_least h (by omega) ?_ (by simp at hj; omega)
        rw [show j - k = (j - (k + 1)) + 1 by omega] at hp
        exact hp
/-- a link that closes a chain of k links below 0 -/
def Pk (L : List Lk) (k i : Nat) : Prop := tabF L k (L.getD i noLk).t.toNat (L.getD i noLk).f.toNat ≠ 1152921504606846976 ∧ (L.getD i noLk).m + tabF L k (L.getD i noLk).t.toNat (L.getD i noLk).f.toNat < 0
theorem Pk.way {n : Nat} {L : List Lk} (hok : ∀ j, j < L.length → okLk n (L.getD j noLk) = true) {k i : Nat} (hi : i < L.length) (h : Pk L k i) : ∃ l : List Nat, l.length = k + 1 ∧ Ch.way L [] (L.getD i noLk).f (i :: l.tail) (L.getD i noLk).f ((L.getD i noLk).m + tabF L k (L.getD i noLk).t.toNat (L.getD i noLk).f.toNat) ∧ l = i :: l.tail := by
  obtain ⟨f0, _, t0, _⟩ := okLk_spec (hok i hi)
  obtain ⟨l, hl, hw⟩ := tabF_ex hok h.1
  rw [show (((L.getD i noLk).t.toNat : Nat) : Int) = (L.getD i noLk).t by omega, show (((L.getD i noLk).f.toNat : Nat) : Int) = (L.getD i noLk).f by omega] at hw
  refine ⟨i :: l, by simp [hl], ⟨hi, rfl, rfl, ?_⟩, rfl⟩
  rw [show ∀ a b : Int, a + b - a = b by intro a b; omega]
  exact hw
/-- what Clash is made of -/
theorem clash_first {n : Nat} (n2 : n ≤ 60) {L : List Lk} (hok : ∀ j, j < L.length → okLk n (L.getD j noLk) = true) (h : ¬ ∃ σ, Sol L [] σ) {c : List Nat} (hc : clash n L [] = some (some c)) :
    ∃ k i r, c = i :: r ∧ k < n ∧ i < L.length ∧ Pk L k i ∧ (∀ q, q < i → ¬ Pk L k q) ∧ (∀ x q, x < k → q < L.length → ¬ Pk L x q) ∧ fst L (sumsTo n L [] (L.getD i noLk).f.toNat) k (L.getD i noLk).t (-1 - (L.getD i noLk).m) = some r := by
  obtain ⟨c', e1, _, hl1, hln, hmin⟩ := clash_ex n2 hok h
  rw [hc] at e1
  have e1 := Option.some.inj (Option.some.inj e1)
  subst e1
  unfold clash at hc
  have hkl : c.length = lnkC (fun v => sumsTo n L [] v) n (n - 1) 1 := by
    have hf : ∀ x : Nat, x < n → (sumsTo n L [] x (lnkC (fun v => sumsTo n L [] v) n (n - 1) 1)).getD x 0 < 0 → ∃ l, fst L (sumsTo n L [] x) (lnkC (fun v => sumsTo n L [] v) n (n - 1) 1) x (-1) = some l := by
      intro x hx hneg
      have := (lnkC_le (S := fun v => sumsTo n L [] v) (n := n) (t := n - 1) (j := 1))
      obtain ⟨l, w, h1, _⟩ := fst_ex hok hx (lnkC (fun v => sumsTo n L [] v) n (n - 1) 1) (u := x) (most := -1) (by omega) (by omega) (by omega) (by omega) (by rw [Int.toNat_natCast]; omega)
      exact ⟨l, h1⟩
    obtain ⟨r, h1, _, h3⟩ := best_ex (L := L) (S := fun v => sumsTo n L [] v) (j := lnkC (fun v => sumsTo n L [] v) n (n - 1) 1) (t := n) (i := 0) (b := none) (fun x _ hx hneg => hf x (by omega) hneg)
    rw [hc] at h1
    have h1 := Option.some.inj h1
    rcases h3 c h1.symm with h4 | ⟨x, _, _, _, hx3⟩
    · cases h4
    · exact fst_len hx3
  have hge := (lnkC_le (S := fun v => sumsTo n L [] v) (n := n) (t := n - 1) (j := 1)).1
  have hfx : ∃ x, x < n ∧ (sumsTo n L [] x c.length).getD x 0 < 0 ∧ fst L (sumsTo n L [] x) c.length x (-1) = some c := by
    rw [hkl]
    obtain ⟨r, h1, _, h3⟩ := best_ex (L := L) (S := fun v => sumsTo n L [] v) (j := lnkC (fun v => sumsTo n L [] v) n (n - 1) 1) (t := n) (i := 0) (b := none) (fun x _ hx hneg => by
      have := (lnkC_le (S := fun v => sumsTo n L [] v) (n := n) (t := n - 1) (j := 1))
      obtain ⟨l, w, h1, _⟩ := fst_ex hok (v := x) (by omega) (lnkC (fun v => sumsTo n L [] v) n (n - 1) 1) (u := x) (most := -1) (by omega) (by omega) (by omega) (by omega) (by rw [Int.toNat_natCast]; omega)
      exact ⟨l, h1⟩)
    rw [hc] at h1
    have h1 := Option.some.inj h1
    rcases h3 c h1.symm with h4 | ⟨x, _, hx, hneg, hx3⟩
    · cases h4
    · exact ⟨x, by omega, hneg, hx3⟩
  rw [← hkl] at hc
  obtain ⟨hbm, _⟩ := best_min (L := L) (by omega) (fun d hd => by cases hd) hc
  obtain ⟨x, hx, hneg, hf⟩ := hfx
  cases c with
  | nil => simp at hl1
  | cons i r =>
    have hlen : (i :: r).length = r.length + 1 := rfl
    rw [hlen] at hf hbm hneg hmin hln
    rw [fst] at hf
    cases hid : idx (canLk (sumsTo n L [] x r.length) x (-1)) L 0 with
    | none => rw [hid] at hf; cases hf
    | some i' =>
      rw [hid] at hf
      simp only at hf
      obtain ⟨r', h1, h2⟩ := Option.map_eq_some_iff.1 hf
      have h3 := (List.cons.inj h2)
      obtain ⟨rfl, rfl⟩ := h3
      obtain ⟨_, hiL, hcan⟩ := idx_some hid
      have hi : i' < L.length := by omega
      rw [Nat.sub_zero] at hcan
      unfold canLk at hcan
      rw [Bool.and_eq_true, beq_iff_eq, decide_eq_true_eq] at hcan
      obtain ⟨f0, f1, t0, t1, _, m0, m1⟩ := okLk_spec (hok i' hi)
      have hfx : (L.getD i' noLk).f.toNat = x := by omega
      have hts := tabF_sums hok (k := r'.length) (u := (L.getD i' noLk).t.toNat) (v := x) (by omega) (by omega) hx
      have hP : Pk L r'.length i' := by
        unfold Pk
        rw [hfx, hts]
        exact ⟨by omega, by omega⟩
      refine ⟨r'.length, i', r', rfl, by omega, hi, hP, fun q hq hPq => ?_, fun y q hy hq hPq => ?_, by rw [hfx]; exact h1⟩
      · have hqL : q < L.length := by omega
        obtain ⟨qf0, qf1, qt0, qt1, _, qm0, qm1⟩ := okLk_spec (hok q hqL)
        obtain ⟨l, hl, hw, he⟩ := hPq.way hok hqL
        have hyn : (L.getD q noLk).f.toNat < n := by omega
        rw [he] at hl
        have hw' : Ch.way L [] (L.getD q noLk).f (q :: l.tail) (((L.getD q noLk).f.toNat : Nat) : Int) ((L.getD q noLk).m + tabF L r'.length (L.getD q noLk).t.toNat (L.getD q noLk).f.toNat) := by
          rw [show (((L.getD q noLk).f.toNat : Nat) : Int) = (L.getD q noLk).f by omega]; exact hw
        have hs := sums_le hok hyn (by omega) hw'
        rw [hl] at hs
        have hneg2 : (sumsTo n L [] (L.getD q noLk).f.toNat (r'.length + 1)).getD (L.getD q noLk).f.toNat 0 < 0 := Int.lt_of_le_of_lt hs hPq.2
        obtain ⟨l2, w2, g1, _⟩ := fst_ex hok hyn (r'.length + 1) (u := (L.getD q noLk).f) (most := -1) (by omega) (by omega) (by omega) (by omega) (by omega)
        have g1' : fst L (sumsTo n L [] (L.getD q noLk).f.toNat) (r'.length + 1) (((L.getD q noLk).f.toNat : Nat) : Int) (-1) = some l2 := by
          rw [show (((L.getD q noLk).f.toNat : Nat) : Int) = (L.getD q noLk).f by omega]; exact g1
        have hle := hbm (L.getD q noLk).f.toNat (Nat.zero_le _) (by omega) hneg2 l2 g1'
        rw [fst] at g1
        cases hid2 : idx (canLk (sumsTo n L [] (L.getD q noLk).f.toNat r'.length) (L.getD q noLk).f (-1)) L 0 with
        | none => rw [hid2] at g1; cases g1
        | some i2 =>
          rw [hid2] at g1
          simp only at g1
          obtain ⟨r2, _, h5⟩ := Option.map_eq_some_iff.1 g1
          rw [← h5] at hle
          have hle : i' ≤ i2 := hle
          have hts2 := tabF_sums hok (k := r'.length) (u := (L.getD q noLk).t.toNat) (v := (L.getD q noLk).f.toNat) (by omega) (by omega) hyn
          have hPq2 := hPq.2
          rw [hts2] at hPq2
          have := idx_least hid2 (j := q) (Nat.zero_le _) (by
            rw [Nat.sub_zero]
            unfold canLk
            rw [Bool.and_eq_true, beq_iff_eq, decide_eq_true_eq]
            exact ⟨rfl, by omega⟩) (by omega)
          omega
      · obtain ⟨l, hl, hw, he⟩ := hPq.way hok hq
        have := hmin _ _ _ hw hPq.2
        rw [← he] at this
        omega
end Ch
