/- Several texts one behind the other. -/
import Derived.Test.YtkcchangkhklcaaZFu
import Derived.Test.YtkcchangkhklcaaZMFxFw
import Derived.Test.YtkcchangkhklcaaZMUgUi
set_option linter.unusedSimpArgs false
set_option linter.unusedVariables false
/- Package chain, mirrored: Chain and Clash as the specification finds them. -/
namespace Ch

theorem lnk_first {S : Nat → List Int} {u : Nat} {b : Int} : ∀ {t j q : Nat}, lnk S u b t j = some q → (S q).getD u 0 = b ∧ ∀ x, j ≤ x → x < q → (S x).getD u 0 ≠ b
  | 0, _, _, h => by cases h
  | t + 1, j, q, h => by
    rw [lnk] at h
    split at h
    · rename_i e
      obtain rfl := Option.some.inj h
      exact ⟨e, fun x h1 h2 => by omega⟩
    · rename_i e
      obtain ⟨h1, h2⟩ := lnk_first h
      refine ⟨h1, fun x hx hx2 => ?_⟩
      by_cases e2 : x = j
      · rw [e2]; exact e
      · exact h2 x (by omega) hx2
/-- what Chain is made of -/
theorem chain_parts {n : Int} {L : List Lk} {k : Nat} (hE : EN n L k) {u v : Int} {l : List Nat} (h : chain n L k u v = some (l, 0)) :
    opn n L [u, v] k = 0 ∧ (bound n L k u v).2 = 0 ∧ (bound n L k u v).1 = tb n L k u.toNat v.toNat ∧ ∃ j : Nat, (j : Int) < n ∧ (sumsTo n.toNat L [] v.toNat j).getD u.toNat 0 = tb n L k u.toNat v.toNat ∧ (∀ x, x < j → (sumsTo n.toNat L [] v.toNat x).getD u.toNat 0 ≠ tb n L k u.toNat v.toNat) ∧ fst L (sumsTo n.toNat L [] v.toNat) j u (tb n L k u.toNat v.toNat) = some l := by
  unfold chain at h
  by_cases h1 : opn n L [u, v] k = 0
  · have h1' : ¬ opn n L [u, v] k ≠ 0 := fun h => h h1
    rw [if_neg h1'] at h
    by_cases h2 : (bt n.toNat L [] k v.toNat).getD u.toNat 0 = free
    · rw [if_pos h2] at h; cases h
    · rw [if_neg h2] at h
      obtain ⟨c1, hu, hv, hB, _⟩ := opn_at hE h1
      obtain ⟨n1, n2, _, hok⟩ := check_ok c1
      have hok' : ∀ j, j < L.length → okLk n.toNat (L.getD j noLk) = true := by rw [show ((n.toNat : Nat) : Int) = n by omega]; exact hok
      have ht : tb n L k u.toNat v.toNat = (bt n.toNat L [] k v.toNat).getD u.toNat 0 := rfl
      have hb : bound n L k u v = (tb n L k u.toNat v.toNat, 0) := by
        unfold bound
        rw [if_neg h1', if_neg h2, ht]
      rw [ht] at hb
      rw [ht, hb]
      generalize bt n.toNat L [] k v.toNat = s at *
      cases e : lnk (sumsTo n.toNat L [] v.toNat) u.toNat (s.getD u.toNat 0) 61 0 with
      | none => rw [e] at h; cases h
      | some j =>
        rw [e] at h
        simp only at h
        obtain ⟨l', h3, h4⟩ := Option.map_eq_some_iff.1 h
        have h5 : l' = l := (Prod.mk.inj h4).1
        subst h5
        obtain ⟨g1, g2⟩ := lnk_first e
        obtain ⟨q, hq, hw⟩ := hB.at' u.toNat (by omega) h2
        have hr := hB.reach (by omega) hok' (u := u.toNat) (by omega) (l := q) (by omega) hw
        obtain ⟨r, hr1, hr2, _⟩ := lnk_ex (S := sumsTo n.toNat L [] v.toNat) (t := 61) (j := 0) (Nat.zero_le _) (by omega) hr
        rw [e] at hr1
        obtain rfl := Option.some.inj hr1
        exact ⟨h1, rfl, rfl, j, by omega, g1, fun x hx => g2 x (Nat.zero_le _) hx, h3⟩
  · rw [if_pos h1] at h
    have h5 := (Prod.mk.inj (Option.some.inj h)).2
    exact absurd h5 h1

/-! ### Clash -/
theorem cmpI_head {a b : Nat} {r q : List Nat} : (cmpI (ints (a :: r)) (ints (b :: q)) < 0 → a ≤ b) ∧ (¬ cmpI (ints (a :: r)) (ints (b :: q)) < 0 → b ≤ a) := by
  have e1 : ints (a :: r) = (a : Int) :: ints r := rfl
  have e2 : ints (b :: q) = (b : Int) :: ints q := rfl
  rw [e1, e2, cmpI]
  by_cases h : (a : Int) < b
  · rw [if_pos h]
    exact ⟨fun _ => by omega, fun h2 => absurd (by decide) h2⟩
  · rw [if_neg h]
    by_cases h3 : (b : Int) < a
    · rw [if_pos h3]
      exact ⟨fun h2 => absurd h2 (by decide), fun _ => by omega⟩
    · exact ⟨fun _ => by omega, fun _ => by omega⟩
theorem lesser_head {l : List Nat} {b : Option (List Nat)} (hl : l ≠ []) (hb : ∀ d, b = some d → d ≠ []) : (lesser l b) ≠ [] ∧ (lesser l b).headD 0 ≤ l.headD 0 ∧ ∀ d, b = some d → (lesser l b).headD 0 ≤ d.headD 0 := by
  unfold lesser
  cases b with
  | none => exact ⟨hl, Nat.le_refl _, fun d h => by cases h⟩
  | some d =>
    have hd := hb d rfl
    cases l with
    | nil => exact absurd rfl hl
    | cons a r => cases d with
      | nil => exact absurd rfl hd
      | cons b q =>
        obtain ⟨h1, h2⟩ := cmpI_head (a := a) (b := b) (r := r) (q := q)
        simp only
        by_cases h : cmpI (ints (a :: r)) (ints (b :: q)) < 0
        · rw [if_pos h]
          exact ⟨by simp, Nat.le_refl _, fun d h3 => by cases h3; exact h1 h⟩
        · rw [if_neg h]
          exact ⟨by simp, h2 h, fun d h3 => by cases h3; exact Nat.le_refl _⟩
theorem best_min {L : List Lk} {S : Nat → Nat → List Int} {j : Nat} (hj : 1 ≤ j) : ∀ {t i : Nat} {b : Option (List Nat)} {c : List Nat}, (∀ d, b = some d → d ≠ []) → best L S j t i b = some (some c) →
    (∀ x, i ≤ x → x < i + t → (S x j).getD x 0 < 0 → ∀ l, fst L (S x) j x (-1) = some l → c.headD 0 ≤ l.headD 0) ∧ ∀ d, b = some d → c.headD 0 ≤ d.headD 0
  | 0, i, b, c, hb, h => by
    rw [best] at h
    obtain rfl := Option.some.inj h
    exact ⟨fun x h1 h2 => by omega, fun d h => by cases h; exact Nat.le_refl _⟩
  | t + 1, i, b, c, hb, h => by
    rw [best] at h
    by_cases e : 0 ≤ (S i j).getD i 0
    · rw [if_pos e] at h
      obtain ⟨h1, h2⟩ := best_min hj hb h
      refine ⟨fun x hx hx2 hx3 l hl => ?_, h2⟩
      by_cases e2 : x = i
      · subst e2; omega
      · exact h1 x (by omega) (by omega) hx3 l hl
    · rw [if_neg e] at h
      cases hf : fst L (S i) j i (-1) with
      | none => rw [hf] at h; cases h
      | some l0 =>
        rw [hf] at h
        simp only at h
        have hl0 : l0 ≠ [] := fun e => by
          have := fst_len hf
          rw [e] at this
          simp at this
          omega
        obtain ⟨g1, g2, g3⟩ := lesser_head hl0 hb
        obtain ⟨h1, h2⟩ := best_min hj (b := some (lesser l0 b)) (fun d hd => by cases hd; exact g1) h
        have h3 := h2 _ rfl
        refine ⟨fun x hx hx2 hx3 l hl => ?_, fun d hd => Nat.le_trans h3 (g3 d hd)⟩
        by_cases e2 : x = i
        · subst e2
          rw [hf] at hl
          obtain rfl := Option.some.inj hl
          exact Nat.le_trans h3 g2
        · exact h1 x (by omega) (by omega) hx3 l hl
theorem idx_least {p : Lk → Bool} {i j : Nat} : ∀ {L : List Lk} {k : Nat}, idx p L k = some i → k ≤ j → p (L.getD (j - k) noLk) = true → j < k + L.length → i ≤ j
  | [], _, h, _, _, _ => by cases h
  | l :: r, k, h, hk, hp, hj => by
    rw [idx] at h
    split at h
    · obtain rfl := Option.some.inj h; exact hk
    · rename_i h1
      by_cases e : j = k
      · subst e
        rw [Nat.sub_self] at hp
        exact absurd hp h1
      · refine idx_least h (by omega) ?_ (by simp at hj; omega)
        rw [show j - k = (j - (k + 1)) + 1 by omega] at hp
        exact hp
/-- a link that closes a chain of k links below 0 -/
def Pk (L : List Lk) (k i : Nat) : Prop := tabF L k (L.getD i noLk).t.toNat (L.getD i noLk).f.toNat ≠ 1152921504606846976 ∧ (L.getD i noLk).m + tabF L k (L.getD i noLk).t.toNat (L.getD i noLk).f.toNat < 0
theorem Pk.way {n : Nat} {L : List Lk} (hok : ∀ j, j < L.length → okLk n (L.getD j noLk) = true) {k i : Nat} (hi : i < L.length) (h : Pk L k i) : ∃ l : List Nat, l.length = k + 1 ∧ Ch.way L [] (L.getD i noLk).f (i :: l.tail) (L.getD i noLk).f ((L.getD i noLk).m + tabF L k (L.getD i noLk).t.toNat (L.getD i noLk).f.toNat) ∧ l = i :: l.tail := by
  obtain ⟨f0, _, t0, _⟩ := okLk_spec (hok i hi)
  obtain ⟨l, hl, hw⟩ := tabF_ex hok h.1
  rw [show (((L.getD i noLk).t.toNat : Nat) : Int) = (L.getD i noLk).t by omega, show (((L.getD i noLk).f.toNat : Nat) : Int) = (L.getD i noLk).f by omega] at hw
  refine ⟨i :: l, by simp [hl], ⟨hi, rfl, rfl, ?_⟩, rfl⟩
  rw [show ∀ a b : Int, a + b - a = b by intro a b; omega]
  exact hw
/-- what Clash is made of -/
theorem clash_first {n : Nat} (n2 : n ≤ 60) {L : List Lk} (hok : ∀ j, j < L.length → okLk n (L.getD j noLk) = true) (h : ¬ ∃ σ, Sol L [] σ) {c : List Nat} (hc : clash n L [] = some (some c)) :
    ∃ k i r, c = i :: r ∧ k < n ∧ i < L.length ∧ Pk L k i ∧ (∀ q, q < i → ¬ Pk L k q) ∧ (∀ x q, x < k → q < L.length → ¬ Pk L x q) ∧ fst L (sumsTo n L [] (L.getD i noLk).f.toNat) k (L.getD i noLk).t (-1 - (L.getD i noLk).m) = some r := by
  obtain ⟨c', e1, _, hl1, hln, hmin⟩ := clash_ex n2 hok h
  rw [hc] at e1
  have e1 := Option.some.inj (Option.some.inj e1)
  subst e1
  unfold clash at hc
  have hkl : c.length = lnkC (fun v => sumsTo n L [] v) n (n - 1) 1 := by
    have hf : ∀ x : Nat, x < n → (sumsTo n L [] x (lnkC (fun v => sumsTo n L [] v) n (n - 1) 1)).getD x 0 < 0 → ∃ l, fst L (sumsTo n L [] x) (lnkC (fun v => sumsTo n L [] v) n (n - 1) 1) x (-1) = some l := by
      intro x hx hneg
      have := (lnkC_le (S := fun v => sumsTo n L [] v) (n := n) (t := n - 1) (j := 1))
      obtain ⟨l, w, h1, _⟩ := fst_ex hok hx (lnkC (fun v => sumsTo n L [] v) n (n - 1) 1) (u := x) (most := -1) (by omega) (by omega) (by omega) (by omega) (by rw [Int.toNat_natCast]; omega)
      exact ⟨l, h1⟩
    obtain ⟨r, h1, _, h3⟩ := best_ex (L := L) (S := fun v => sumsTo n L [] v) (j := lnkC (fun v => sumsTo n L [] v) n (n - 1) 1) (t := n) (i := 0) (b := none) (fun x _ hx hneg => hf x (by omega) hneg)
    rw [hc] at h1
    have h1 := Option.some.inj h1
    rcases h3 c h1.symm with h4 | ⟨x, _, _, _, hx3⟩
    · cases h4
    · exact fst_len hx3
  have hge := (lnkC_le (S := fun v => sumsTo n L [] v) (n := n) (t := n - 1) (j := 1)).1
  have hfx : ∃ x, x < n ∧ (sumsTo n L [] x c.length).getD x 0 < 0 ∧ fst L (sumsTo n L [] x) c.length x (-1) = some c := by
    rw [hkl]
    obtain ⟨r, h1, _, h3⟩ := best_ex (L := L) (S := fun v => sumsTo n L [] v) (j := lnkC (fun v => sumsTo n L [] v) n (n - 1) 1) (t := n) (i := 0) (b := none) (fun x _ hx hneg => by
      have := (lnkC_le (S := fun v => sumsTo n L [] v) (n := n) (t := n - 1) (j := 1))
      obtain ⟨l, w, h1, _⟩ := fst_ex hok (v := x) (by omega) (lnkC (fun v => sumsTo n L [] v) n (n - 1) 1) (u := x) (most := -1) (by omega) (by omega) (by omega) (by omega) (by rw [Int.toNat_natCast]; omega)
      exact ⟨l, h1⟩)
    rw [hc] at h1
    have h1 := Option.some.inj h1
    rcases h3 c h1.symm with h4 | ⟨x, _, hx, hneg, hx3⟩
    · cases h4
    · exact ⟨x, by omega, hneg, hx3⟩
  rw [← hkl] at hc
  obtain ⟨hbm, _⟩ := best_min (L := L) (by omega) (fun d hd => by cases hd) hc
  obtain ⟨x, hx, hneg, hf⟩ := hfx
  cases c with
  | nil => simp at hl1
  | cons i r =>
    have hlen : (i :: r).length = r.length + 1 := rfl
    rw [hlen] at hf hbm hneg hmin hln
    rw [fst] at hf
    cases hid : idx (canLk (sumsTo n L [] x r.length) x (-1)) L 0 with
    | none => rw [hid] at hf; cases hf
    | some i' =>
      rw [hid] at hf
      simp only at hf
      obtain ⟨r', h1, h2⟩ := Option.map_eq_some_iff.1 hf
      have h3 := (List.cons.inj h2)
      obtain ⟨rfl, rfl⟩ := h3
      obtain ⟨_, hiL, hcan⟩ := idx_some hid
      have hi : i' < L.length := by omega
      rw [Nat.sub_zero] at hcan
      unfold canLk at hcan
      rw [Bool.and_eq_true, beq_iff_eq, decide_eq_true_eq] at hcan
      obtain ⟨f0, f1, t0, t1, _, m0, m1⟩ := okLk_spec (hok i' hi)
      have hfx : (L.getD i' noLk).f.toNat = x := by omega
      have hts := tabF_sums hok (k := r'.length) (u := (L.getD i' noLk).t.toNat) (v := x) (by omega) (by omega) hx
      have hP : Pk L r'.length i' := by
        unfold Pk
        rw [hfx, hts]
        exact ⟨by omega, by omega⟩
      refine ⟨r'.length, i', r', rfl, by omega, hi, hP, fun q hq hPq => ?_, fun y q hy hq hPq => ?_, by rw [hfx]; exact h1⟩
      · have hqL : q < L.length := by omega
        obtain ⟨qf0, qf1, qt0, qt1, _, qm0, qm1⟩ := okLk_spec (hok q hqL)
        obtain ⟨l, hl, hw, he⟩ := hPq.way hok hqL
        have hyn : (L.getD q noLk).f.toNat < n := by omega
        rw [he] at hl
        have hw' : Ch.way L [] (L.getD q noLk).f (q :: l.tail) (((L.getD q noLk).f.toNat : Nat) : Int) ((L.getD q noLk).m + tabF L r'.length (L.getD q noLk).t.toNat (L.getD q noLk).f.toNat) := by
          rw [show (((L.getD q noLk).f.toNat : Nat) : Int) = (L.getD q noLk).f by omega]; exact hw
        have hs := sums_le hok hyn (by omega) hw'
        rw [hl] at hs
        have hneg2 : (sumsTo n L [] (L.getD q noLk).f.toNat (r'.length + 1)).getD (L.getD q noLk).f.toNat 0 < 0 := Int.lt_of_le_of_lt hs hPq.2
        obtain ⟨l2, w2, g1, _⟩ := fst_ex hok hyn (r'.length + 1) (u := (L.getD q noLk).f) (most := -1) (by omega) (by omega) (by omega) (by omega) (by omega)
        have g1' : fst L (sumsTo n L [] (L.getD q noLk).f.toNat) (r'.length + 1) (((L.getD q noLk).f.toNat : Nat) : Int) (-1) = some l2 := by
          rw [show (((L.getD q noLk).f.toNat : Nat) : Int) = (L.getD q noLk).f by omega]; exact g1
        have hle := hbm (L.getD q noLk).f.toNat (Nat.zero_le _) (by omega) hneg2 l2 g1'
        rw [fst] at g1
        cases hid2 : idx (canLk (sumsTo n L [] (L.getD q noLk).f.toNat r'.length) (L.getD q noLk).f (-1)) L 0 with
        | none => rw [hid2] at g1; cases g1
        | some i2 =>
          rw [hid2] at g1
          simp only at g1
          obtain ⟨r2, _, h5⟩ := Option.map_eq_some_iff.1 g1
          rw [← h5] at hle
          have hle : i' ≤ i2 := hle
          have hts2 := tabF_sums hok (k := r'.length) (u := (L.getD q noLk).t.toNat) (v := (L.getD q noLk).f.toNat) (by omega) (by omega) hyn
          have hPq2 := hPq.2
          rw [hts2] at hPq2
          have := idx_least hid2 (j := q) (Nat.zero_le _) (by
            rw [Nat.sub_zero]
            unfold canLk
            rw [Bool.and_eq_true, beq_iff_eq, decide_eq_true_eq]
            exact ⟨rfl, by omega⟩) (by omega)
          omega
      · obtain ⟨l, hl, hw, he⟩ := hPq.way hok hq
        have := hmin _ _ _ hw hPq.2
        rw [← he] at this
        omega
end Ch

/- The specification's table as numbers: free stands for none; what a round's store leaves. -/
namespace Ch

def fz (o : Option Int) : Int := o.getD 1152921504606846976
theorem fz_some {z : Int} : fz (some z) = z := rfl
theorem fz_none : fz none = 1152921504606846976 := rfl
theorem fz_start {L : List Lk} {u v : Nat} : fz (fyK L 0 u v) = if u = v then 0 else 1152921504606846976 := by
  unfold fyK
  split <;> rfl
/-- one link more -/
theorem fz_link {D : Nat → Nat → Option Int} {l : Lk} (hm : l.m ≤ 4503599627370496) {a b : Nat} : fz (fyLink D l a b) = if a = l.f.toNat ∧ b = l.t.toNat then min (fz (D l.f.toNat l.t.toNat)) l.m else fz (D a b) := by
  unfold fyLink
  by_cases h : a = l.f.toNat ∧ b = l.t.toNat
  · rw [if_pos h, if_pos h, ← h.1, ← h.2]
    cases D a b with
    | none => rw [fz_none, fz_some, Option.getD_none]; omega
    | some z => rw [fz_some, fz_some, Option.getD_some]
  · rw [if_neg h, if_neg h]
theorem fz_small {n : Nat} (n2 : n ≤ 60) {L : List Lk} (hok : ∀ j, j < L.length → okLk n (L.getD j noLk) = true) {k : Nat} (hk : k ≤ n) (h : ∀ j, j < k → ∃ z, fyR L j j j = some z ∧ 0 ≤ z) (u v : Nat) : -274719577269600256 ≤ fz (fyR L k u v) ∧ (fz (fyR L k u v) = 1152921504606846976 ∨ fz (fyR L k u v) ≤ 274719577269600256) := by
  cases e : fyR L k u v with
  | none => rw [fz_none]; omega
  | some z =>
    have := fyR_small n2 hok hk h e
    rw [fz_some]; omega
/-- in round k row k and column k stay -/
theorem step_col {D : Nat → Nat → Option Int} {k : Nat} (h : D k k = some 0) (u : Nat) : fyStep D k u k = D u k := by
  unfold fyStep
  rw [h]
  cases e : D u k with
  | none => rfl
  | some x => simp
theorem step_row {D : Nat → Nat → Option Int} {k : Nat} (h : D k k = some 0) (v : Nat) : fyStep D k k v = D k v := by
  unfold fyStep
  rw [h]
  cases e : D k v with
  | none => rfl
  | some x => simp
theorem step_skip {D : Nat → Nat → Option Int} {k u v : Nat} (h : D u k = none ∨ D k v = none) : fyStep D k u v = D u v := by
  unfold fyStep
  rcases h with h | h
  · rw [h]
  · rw [h]; cases D u k <;> rfl
theorem fz_free {o : Option Int} (h : o = none ∨ ∃ z, o = some z ∧ z ≤ 274719577269600256) : fz o = 1152921504606846976 ↔ o = none := by
  rcases h with rfl | ⟨z, rfl, hz⟩
  · exact ⟨fun _ => rfl, fun _ => rfl⟩
  · rw [fz_some]
    exact ⟨fun e => by omega, fun e => by cases e⟩
theorem fz_step {D : Nat → Nat → Option Int} {k u v : Nat} {x y : Int} (h1 : D u k = some x) (h2 : D k v = some y) (hxy : x + y ≤ 1152921504606846976) : fz (fyStep D k u v) = min (fz (D u v)) (x + y) := by
  unfold fyStep
  rw [h1, h2]
  cases e : D u v with
  | none => rw [fz_none]; simp only [fz_some]; omega
  | some z => simp only [fz_some]

/-- the table in the midst of round k: rows before u are done, and row u before v -/
def fyM (L : List Lk) (k u v a b : Nat) : Option Int := if a < u ∨ (a = u ∧ b < v) then fyR L (k + 1) a b else fyR L k a b
theorem fyM_start {L : List Lk} {k a b : Nat} : fyM L k 0 0 a b = fyR L k a b := by unfold fyM; rw [if_neg (by omega)]
theorem fyM_row {L : List Lk} {k u n a b : Nat} (hb : b < n) : fyM L k u n a b = fyM L k (u + 1) 0 a b := by
  unfold fyM
  by_cases h : a < u ∨ (a = u ∧ b < n)
  · rw [if_pos h, if_pos (by omega)]
  · rw [if_neg h, if_neg (by omega)]
theorem fyM_end {L : List Lk} {k n a b : Nat} (ha : a < n) : fyM L k n 0 a b = fyR L (k + 1) a b := by unfold fyM; rw [if_pos (by omega)]
theorem fyM_col {L : List Lk} {k u v : Nat} (h : fyR L k k k = some 0) : fyM L k u v u k = fyR L k u k := by
  unfold fyM
  split
  · exact step_col h u
  · rfl
theorem fyM_krow {L : List Lk} {k u v b : Nat} (h : fyR L k k k = some 0) : fyM L k u v k b = fyR L k k b := by
  unfold fyM
  split
  · exact step_row h b
  · rfl
theorem fyM_at {L : List Lk} {k u v : Nat} : fyM L k u v u v = fyR L k u v := by unfold fyM; rw [if_neg (by omega)]
/-- the cell (u, v) becomes that of the next table -/
theorem fyM_next {L : List Lk} {k u v a b : Nat} {z : Int} (hz : fz (fyR L (k + 1) u v) = z) : (if a = u ∧ b = v then z else fz (fyM L k u v a b)) = fz (fyM L k u (v + 1) a b) := by
  by_cases h : a = u ∧ b = v
  · rw [if_pos h, ← hz]
    unfold fyM
    rw [if_pos (by omega), h.1, h.2]
  · rw [if_neg h]
    unfold fyM
    by_cases h2 : a < u ∨ (a = u ∧ b < v)
    · rw [if_pos h2, if_pos (by omega)]
    · rw [if_neg h2, if_neg (by omega)]
theorem fyM_keep {L : List Lk} {k u v a b : Nat} (hz : fyR L (k + 1) u v = fyR L k u v) : fyM L k u v a b = fyM L k u (v + 1) a b := by
  unfold fyM
  by_cases h2 : a < u ∨ (a = u ∧ b < v)
  · rw [if_pos h2, if_pos (by omega)]
  · rw [if_neg h2]
    by_cases h3 : a = u ∧ b = v
    · rw [if_pos (by omega), h3.1, h3.2, hz]
    · rw [if_neg (by omega)]
theorem fyM_keeprow {L : List Lk} {k u a b : Nat} (hz : ∀ v, fyR L (k + 1) u v = fyR L k u v) : fyM L k u 0 a b = fyM L k (u + 1) 0 a b := by
  unfold fyM
  by_cases h2 : a < u
  · rw [if_pos (by omega), if_pos (by omega)]
  · rw [if_neg (by omega)]
    by_cases h3 : a = u
    · rw [if_pos (by omega), h3, hz]
    · rw [if_neg (by omega)]
/-- the last table -/
def fyT (n : Nat) (L : List Lk) (u v : Nat) : Int := fz (fyR L n u v)
theorem fyT_tb {n : Int} {L : List Lk} {k : Nat} (hE : EN n L k) (h : opn n L [] k = 0) {u v : Nat} (hu : u < n.toNat) (hv : v < n.toNat) : fyT n.toNat L u v = tb n L k u v := by
  obtain ⟨c1, _, c3⟩ := opn_ok h
  obtain ⟨n1, n2, _, hok⟩ := check_ok c1
  have hok' : ∀ j, j < L.length → okLk n.toNat (L.getD j noLk) = true := by rw [show ((n.toNat : Nat) : Int) = n by omega]; exact hok
  have hs := hE.cons c1 c3
  have hd := (fyR_ok hok').2 hs
  obtain ⟨b1, _, _⟩ := enough_bt (hE.en c1) c3 hv
  have := fyR_bt (by omega) (by omega) hok' hd hv b1 u hu
  unfold tb
  rw [this]
  rfl
end Ch
