/- Package chain, mirrored: a system whose values are shifted. -/
import Derived.Test.YtpddjofmiakpbaaZUk
set_option linter.unusedSimpArgs false
set_option linter.unusedVariables false
namespace Ch

/-- the links of the shifted system: the first j of them -/
def shf (L : List Lk) (P : Nat → Int) (j : Nat) : List Lk := (List.range j).map fun i => ⟨(L.getD i noLk).f, (L.getD i noLk).t, (L.getD i noLk).m + P (L.getD i noLk).t.toNat - P (L.getD i noLk).f.toNat⟩
theorem shf_next {L : List Lk} {P : Nat → Int} {j : Nat} : shf L P (j + 1) = shf L P j ++ [⟨(L.getD j noLk).f, (L.getD j noLk).t, (L.getD j noLk).m + P (L.getD j noLk).t.toNat - P (L.getD j noLk).f.toNat⟩] := by
  unfold shf
  rw [List.range_succ, List.map_append]
  rfl
theorem shf_len (L : List Lk) (P : Nat → Int) (j : Nat) : (shf L P j).length = j := by simp [shf]
theorem shf_at {L : List Lk} {P : Nat → Int} {j i : Nat} (h : i < j) : (shf L P j).getD i noLk = ⟨(L.getD i noLk).f, (L.getD i noLk).t, (L.getD i noLk).m + P (L.getD i noLk).t.toNat - P (L.getD i noLk).f.toNat⟩ := by
  unfold shf
  rw [List.getD, List.getElem?_map, List.getElem?_range h]; rfl

/-- the one system is the other one, shifted -/
structure Shf (n : Nat) (L M : List Lk) (P : Nat → Int) : Prop where
  len : M.length = L.length
  at' : ∀ i, i < L.length → M.getD i noLk = ⟨(L.getD i noLk).f, (L.getD i noLk).t, (L.getD i noLk).m + P (L.getD i noLk).t.toNat - P (L.getD i noLk).f.toNat⟩
  ok : ∀ j, j < L.length → okLk n (L.getD j noLk) = true
  ok2 : ∀ j, j < M.length → okLk n (M.getD j noLk) = true
  b : ∀ v, v < n → -1099511627776 ≤ P v ∧ P v ≤ 1099511627776
theorem Shf.back {n : Nat} {L M : List Lk} {P : Nat → Int} (h : Shf n L M P) : Shf n M L fun v => -(P v) := by
  refine ⟨h.len.symm, fun i hi => ?_, h.ok2, h.ok, fun v hv => by have := h.b v hv; constructor <;> omega⟩
  have hi' : i < L.length := by rw [← h.len]; exact hi
  rw [h.at' i hi']
  simp only
  have : ∀ x : Lk, x = ⟨x.f, x.t, x.m + P x.t.toNat - P x.f.toNat + -P x.t.toNat - -P x.f.toNat⟩ := fun x => by
    cases x
    simp only [Lk.mk.injEq, true_and]
    omega
  exact this _
theorem Shf.way {n : Nat} {L M : List Lk} {P : Nat → Int} (h : Shf n L M P) : ∀ {l : List Nat} {u v w : Int}, way L [] u l v w → way M [] u l v (w + P v.toNat - P u.toNat)
  | [], u, v, w, hw => by
    obtain ⟨rfl, rfl⟩ := hw
    exact ⟨rfl, by omega⟩
  | i :: r, u, v, w, hw => by
    obtain ⟨h0, _, hf, ht⟩ := hw
    have ih := h.way ht
    refine ⟨by rw [h.len]; exact h0, rfl, by rw [h.at' i h0]; exact hf, ?_⟩
    rw [h.at' i h0]
    simp only
    rw [hf, show w + P v.toNat - P u.toNat - ((L.getD i noLk).m + P (L.getD i noLk).t.toNat - P u.toNat) = w - (L.getD i noLk).m + P v.toNat - P (L.getD i noLk).t.toNat by omega]
    exact ih
theorem Shf.sol {n : Nat} {L M : List Lk} {P : Nat → Int} (h : Shf n L M P) {σ : Nat → Int} (hs : Sol L [] σ) : Sol M [] fun v => σ v - P v := fun v l hl => by
  obtain ⟨i, hi, _, rfl, ht⟩ := mem_links_inv hl
  rw [h.len] at hi
  rw [h.at' i hi] at ht ⊢
  simp only at ht ⊢
  have h1 := hs _ _ (mem_links (drop := []) hi rfl (okLk_spec (h.ok i hi)).2.2.1)
  rw [ht, show ((v : Int)).toNat = v from rfl] at h1
  rw [ht, show ((v : Int)).toNat = v from rfl]
  omega

/-- sumsTo against the shifted system -/
theorem Shf.sums {n : Nat} {L M : List Lk} {P : Nat → Int} (h : Shf n L M P) {v u k : Nat} (hv : v < n) (hu : u < n) (hk : k ≤ 100) {b : Int} (hb : b < 900000000000000000) : (sumsTo n L [] v k).getD u 0 ≤ b ↔ (sumsTo n M [] v k).getD u 0 ≤ b + P v - P u := by
  have hPv := h.b v hv
  have hPu := h.b u hu
  constructor
  · intro hs
    obtain ⟨l, hl, hw⟩ := sums_way h.ok k (v := v) hu (drop := []) (by unfold free; omega)
    have h1 := sums_le h.ok2 hv (by omega) (h.way hw)
    rw [hl, show (u : Int).toNat = u from rfl, show (v : Int).toNat = v from rfl] at h1
    omega
  · intro hs
    obtain ⟨l, hl, hw⟩ := sums_way h.ok2 k (v := v) hu (drop := []) (by unfold free; omega)
    have h1 := sums_le h.ok hv (by omega) (h.back.way hw)
    rw [hl, show (u : Int).toNat = u from rfl, show (v : Int).toNat = v from rfl] at h1
    omega
theorem idx_congr {p q : Lk → Bool} : ∀ {L M : List Lk} {a : Nat}, L.length = M.length → (∀ i, i < L.length → p (L.getD i noLk) = q (M.getD i noLk)) → idx p L a = idx q M a
  | [], [], _, _, _ => rfl
  | [], _ :: _, _, h, _ => by simp at h
  | _ :: _, [], _, h, _ => by simp at h
  | l :: L, m :: M, a, hl, h => by
    have h0 : p l = q m := h 0 (by simp)
    rw [idx, idx, h0, idx_congr (L := L) (M := M) (by simpa using hl) (fun i hi => h (i + 1) (by simpa using hi))]
theorem Shf.fst {n : Nat} {L M : List Lk} {P : Nat → Int} (h : Shf n L M P) {v : Nat} (hv : v < n) : ∀ (k : Nat) {u : Nat} {b : Int}, u < n → k ≤ 100 → b + 4503599627370496 * (k : Int) < 890000000000000000 → Ch.fst L (sumsTo n L [] v) k u b = Ch.fst M (sumsTo n M [] v) k u (b + P v - P u)
  | 0, u, b, _, _, _ => rfl
  | k + 1, u, b, hu, hk, hb => by
    have e : idx (canLk (sumsTo n L [] v k) u b) L 0 = idx (canLk (sumsTo n M [] v k) u (b + P v - P u)) M 0 := by
      refine idx_congr h.len.symm fun i hi => ?_
      rw [h.at' i hi]
      obtain ⟨f0, f1, t0, t1, _, m0, m1⟩ := okLk_spec (h.ok i hi)
      unfold canLk
      simp only
      by_cases hf : (L.getD i noLk).f = (u : Int)
      · have hs := h.sums hv (u := (L.getD i noLk).t.toNat) (k := k) (by omega) (by omega) (b := b - (L.getD i noLk).m) (by omega)
        rw [hf, show ((u : Int)).toNat = u from rfl]
        have : ((sumsTo n L [] v k).getD (L.getD i noLk).t.toNat 0 ≤ b - (L.getD i noLk).m) = ((sumsTo n M [] v k).getD (L.getD i noLk).t.toNat 0 ≤ b + P v - P u - ((L.getD i noLk).m + P (L.getD i noLk).t.toNat - P u)) := by
          rw [show b + P v - P u - ((L.getD i noLk).m + P (L.getD i noLk).t.toNat - P u) = b - (L.getD i noLk).m + P v - P (L.getD i noLk).t.toNat by omega]
          exact propext hs
        simp only [this]
      · have : ((L.getD i noLk).f == (u : Int)) = false := by rw [beq_eq_false_iff_ne]; exact hf
        rw [this]
        simp
    rw [Ch.fst, Ch.fst, ← e]
    cases hj : idx (canLk (sumsTo n L [] v k) u b) L 0 with
    | none => rfl
    | some j =>
      obtain ⟨_, hjl, hjp⟩ := idx_some hj
      rw [Nat.sub_zero] at hjp
      have hjL : j < L.length := by omega
      unfold canLk at hjp
      rw [Bool.and_eq_true, beq_iff_eq] at hjp
      obtain ⟨f0, f1, t0, t1, _, m0, m1⟩ := okLk_spec (h.ok j hjL)
      simp only
      rw [h.at' j hjL]
      simp only
      have ih := h.fst hv k (u := (L.getD j noLk).t.toNat) (b := b - (L.getD j noLk).m) (by omega) (by omega) (by omega)
      rw [show (((L.getD j noLk).t.toNat : Nat) : Int) = (L.getD j noLk).t by omega] at ih
      rw [ih, hjp.1, show ((u : Int)).toNat = u from rfl, show b + P v - P u - ((L.getD j noLk).m + P (L.getD j noLk).t.toNat - P u) = b - (L.getD j noLk).m + P v - P (L.getD j noLk).t.toNat by omega]
theorem lnk_congr {S T : Nat → List Int} {u : Nat} {b c : Int} : ∀ {t j : Nat}, (∀ i, j ≤ i → i < j + t → ((S i).getD u 0 = b ↔ (T i).getD u 0 = c)) → lnk S u b t j = lnk T u c t j
  | 0, _, _ => rfl
  | t + 1, j, h => by
    rw [lnk, lnk]
    have h0 := h j (Nat.le_refl _) (by omega)
    by_cases e : (S j).getD u 0 = b
    · rw [if_pos e, if_pos (h0.1 e)]
    · rw [if_neg e, if_neg (fun hh => e (h0.2 hh))]
      exact lnk_congr fun i h1 h2 => h i (by omega) (by omega)
theorem Shf.sumEq {n : Nat} {L M : List Lk} {P : Nat → Int} (h : Shf n L M P) {v u k : Nat} (hv : v < n) (hu : u < n) (hk : k ≤ 100) {b : Int} (hb : b < 890000000000000000) : (sumsTo n L [] v k).getD u 0 = b ↔ (sumsTo n M [] v k).getD u 0 = b + P v - P u := by
  have h1 := h.sums hv hu hk (b := b) (by omega)
  have h2 := h.sums hv hu hk (b := b - 1) (by omega)
  omega
theorem Shf.bt {n : Nat} {L M : List Lk} {P : Nat → Int} (h : Shf n L M P) {u v : Nat} (hu : u < n) (hv : v < n) {s s' : List Int} (hB : BT n L [] v s) (hB' : BT n M [] v s') : (s.getD u 0 = free ∧ s'.getD u 0 = free) ∨ (s.getD u 0 ≠ free ∧ s'.getD u 0 ≠ free ∧ s'.getD u 0 = s.getD u 0 + P v - P u) := by
  have g1 : s.getD u 0 ≠ free → s'.getD u 0 ≤ s.getD u 0 + P v - P u ∧ s'.getD u 0 ≠ free := fun hf => by
    obtain ⟨l, _, hl⟩ := hB.at' u hu hf
    exact hB'.up (h.way hl)
  have g2 : s'.getD u 0 ≠ free → s.getD u 0 ≤ s'.getD u 0 + -P v - -P u ∧ s.getD u 0 ≠ free := fun hf => by
    obtain ⟨l, _, hl⟩ := hB'.at' u hu hf
    exact hB.up (h.back.way hl)
  by_cases hf : s.getD u 0 = free
  · by_cases hg : s'.getD u 0 = free
    · exact .inl ⟨hf, hg⟩
    · exact absurd hf (g2 hg).2
  · have a := g1 hf
    have b := g2 a.2
    exact .inr ⟨hf, a.2, by omega⟩

/-- two systems, the one shifted, with fuel that is enough -/
structure Sh (n : Int) (L M : List Lk) (P : Nat → Int) (k k2 : Nat) : Prop where
  e1 : EN n L k
  e2 : EN n M k2
  c1 : (check n L).1 = 0
  c2 : (check n M).1 = 0
  s : Shf n.toNat L M P
theorem Sh.cons {n : Int} {L M : List Lk} {P : Nat → Int} {k k2 : Nat} (h : Sh n L M P k k2) : Ch.cons n.toNat L [] k = Ch.cons n.toNat M [] k2 := by
  have : Ch.cons n.toNat L [] k = true ↔ Ch.cons n.toNat M [] k2 = true := by
    rw [h.e1.sol h.c1, h.e2.sol h.c2]
    exact ⟨fun ⟨σ, hs⟩ => ⟨_, h.s.sol hs⟩, fun ⟨σ, hs⟩ => ⟨_, h.s.back.sol hs⟩⟩
  cases h1 : Ch.cons n.toNat L [] k <;> cases h2 : Ch.cons n.toNat M [] k2 <;> simp_all
theorem Sh.opn {n : Int} {L M : List Lk} {P : Nat → Int} {k k2 : Nat} (h : Sh n L M P k k2) (l : List Int) : Ch.opn n L l k = Ch.opn n M l k2 := by
  unfold Ch.opn openE
  rw [h.c1, h.c2, h.cons]
theorem Sh.bound {n : Int} {L M : List Lk} {P : Nat → Int} {k k2 : Nat} (h : Sh n L M P k k2) (u v : Int) :
    (Ch.bound n L k u v).2 = (Ch.bound n M k2 u v).2 ∧ ((Ch.bound n L k u v).2 = 0 → (Ch.bound n M k2 u v).1 = (Ch.bound n L k u v).1 + P v.toNat - P u.toNat) := by
  have ho := h.opn [u, v]
  unfold Ch.bound
  rw [← ho]
  by_cases h1 : Ch.opn n L [u, v] k = 0
  · obtain ⟨_, hu, hv, hB, _⟩ := opn_at h.e1 h1
    obtain ⟨_, _, _, hB', _⟩ := opn_at h.e2 (by rw [← ho]; exact h1)
    have h1' : ¬ Ch.opn n L [u, v] k ≠ 0 := fun hh => hh h1
    rw [if_neg h1', if_neg h1']
    rcases h.s.bt (u := u.toNat) (v := v.toNat) (by omega) (by omega) hB hB' with ⟨a, b⟩ | ⟨a, b, c⟩
    · rw [if_pos a, if_pos b]
      exact ⟨rfl, fun hh => by cases hh⟩
    · rw [if_neg a, if_neg b]
      exact ⟨rfl, fun _ => c⟩
  · rw [if_pos h1, if_pos h1]
    exact ⟨rfl, fun hh => absurd hh h1⟩
theorem Sh.chain {n : Int} {L M : List Lk} {P : Nat → Int} {k k2 : Nat} (h : Sh n L M P k k2) (u v : Int) : ∃ c er, Ch.chain n L k u v = some (c, er) ∧ Ch.chain n M k2 u v = some (c, er) ∧ c.length ≤ 60 := by
  obtain ⟨n1, n9, _, _⟩ := check_ok h.c1
  obtain ⟨c, er, e1, _, e3, e4⟩ := chain_ex h.e1.en h.e1.cons u v (n := n) (L := L) (k := k)
  have hlen : c.length ≤ 60 := by
    by_cases he : er = 0
    · have := (e4 he).2.1
      omega
    · rw [e3 he]; simp
  refine ⟨c, er, e1, ?_, hlen⟩
  rw [← e1]
  have ho := h.opn [u, v]
  unfold Ch.chain
  rw [← ho]
  by_cases h1 : Ch.opn n L [u, v] k = 0
  · obtain ⟨hc, hu, hv, hB, _⟩ := opn_at h.e1 h1
    obtain ⟨_, n2, _⟩ := check_ok hc
    obtain ⟨_, _, _, hB', _⟩ := opn_at h.e2 (by rw [← ho]; exact h1)
    have h1' : ¬ Ch.opn n L [u, v] k ≠ 0 := fun hh => hh h1
    rw [if_neg h1', if_neg h1']
    rcases h.s.bt (u := u.toNat) (v := v.toNat) (by omega) (by omega) hB hB' with ⟨a, b⟩ | ⟨a, b, c'⟩
    · rw [if_pos a, if_pos b]
    · rw [if_neg a, if_neg b]
      have hhi := (hB.hi u.toNat (by omega)).resolve_left a
      have el := lnk_congr (S := sumsTo n.toNat L [] v.toNat) (T := sumsTo n.toNat M [] v.toNat) (u := u.toNat) (b := (Ch.bt n.toNat L [] k v.toNat).getD u.toNat 0) (c := (Ch.bt n.toNat M [] k2 v.toNat).getD u.toNat 0) (t := 61) (j := 0) (fun i _ hi => by
        rw [c']
        exact h.s.sumEq (by omega) (by omega) (by omega) (by omega))
      rw [← el]
      cases hj : lnk (sumsTo n.toNat L [] v.toNat) u.toNat ((Ch.bt n.toNat L [] k v.toNat).getD u.toNat 0) 61 0 with
      | none => rfl
      | some j =>
        have hj2 := lnk_le hj
        have ef := h.s.fst (v := v.toNat) (by omega) j (u := u.toNat) (b := (Ch.bt n.toNat L [] k v.toNat).getD u.toNat 0) (by omega) (by omega) (by omega)
        rw [show ((u.toNat : Nat) : Int) = u by omega] at ef
        simp only
        rw [ef, ← c']
  · rw [if_pos h1, if_pos h1]

theorem neg_congr {S T : Nat → Nat → List Int} {j : Nat} : ∀ {t i : Nat}, (∀ x, i ≤ x → x < i + t → ((S x j).getD x 0 < 0 ↔ (T x j).getD x 0 < 0)) → neg S j t i = neg T j t i
  | 0, _, _ => rfl
  | t + 1, i, h => by
    rw [neg, neg, neg_congr (fun x h1 h2 => h x (by omega) (by omega)), decide_eq_decide.2 (h i (Nat.le_refl _) (by omega))]
theorem lnkC_congr {S T : Nat → Nat → List Int} {n : Nat} : ∀ {t j : Nat}, (∀ i, j ≤ i → i < j + t → neg S i n 0 = neg T i n 0) → lnkC S n t j = lnkC T n t j
  | 0, _, _ => rfl
  | t + 1, j, h => by
    rw [lnkC, lnkC, h j (Nat.le_refl _) (by omega), lnkC_congr (fun i h1 h2 => h i (by omega) (by omega))]
theorem best_congr {L M : List Lk} {S T : Nat → Nat → List Int} {j : Nat} : ∀ {t i : Nat} {b : Option (List Nat)}, (∀ x, i ≤ x → x < i + t → ((S x j).getD x 0 < 0 ↔ (T x j).getD x 0 < 0) ∧ Ch.fst L (S x) j x (-1) = Ch.fst M (T x) j x (-1)) → best L S j t i b = best M T j t i b
  | 0, _, _, _ => rfl
  | t + 1, i, b, h => by
    have h0 := h i (Nat.le_refl _) (by omega)
    rw [best, best, h0.2]
    have e : (0 ≤ (S i j).getD i 0) = (0 ≤ (T i j).getD i 0) := propext (by have := h0.1; omega)
    simp only [e]
    rw [best_congr (fun x h1 h2 => h x (by omega) (by omega))]
    cases hf : Ch.fst M (T i) j i (-1) with
    | none => rfl
    | some l =>
      simp only
      rw [best_congr (fun x h1 h2 => h x (by omega) (by omega))]
theorem Sh.clash {n : Int} {L M : List Lk} {P : Nat → Int} {k k2 : Nat} (h : Sh n L M P k k2) : ∃ c er, clashE n L k = some (c, er) ∧ clashE n M k2 = some (c, er) ∧ c.length ≤ 60 := by
  obtain ⟨n1, n2, _, _⟩ := check_ok h.c1
  have hneg : ∀ j x, j ≤ 100 → x < n.toNat → ((sumsTo n.toNat L [] x j).getD x 0 < 0 ↔ (sumsTo n.toNat M [] x j).getD x 0 < 0) := fun j x hj hx => by
    have := h.s.sums (v := x) (u := x) hx hx hj (b := -1) (by omega)
    omega
  have hfst : ∀ j x, j ≤ 100 → x < n.toNat → Ch.fst L (sumsTo n.toNat L [] x) j x (-1) = Ch.fst M (sumsTo n.toNat M [] x) j x (-1) := fun j x hj hx => by
    have := h.s.fst hx j (u := x) (b := -1) hx hj (by omega)
    rw [show (-1 : Int) + P x - P x = -1 by omega] at this
    exact this
  have hcl : Ch.clash n.toNat L [] = Ch.clash n.toNat M [] := by
    unfold Ch.clash
    have el : lnkC (fun v => sumsTo n.toNat L [] v) n.toNat (n.toNat - 1) 1 = lnkC (fun v => sumsTo n.toNat M [] v) n.toNat (n.toNat - 1) 1 :=
      lnkC_congr fun i h1 h2 => neg_congr fun x _ hx => hneg i x (by omega) (by omega)
    rw [← el]
    have hle := (lnkC_le (S := fun v => sumsTo n.toNat L [] v) (n := n.toNat) (t := n.toNat - 1) (j := 1)).2
    exact best_congr fun x _ hx => ⟨hneg _ x (by omega) (by omega), hfst _ x (by omega) (by omega)⟩
  cases hk : Ch.cons n.toNat L [] k
  · obtain ⟨c, hc, _, hle, _⟩ := ornot_no h.e1 h.c1 hk
    refine ⟨c, 0, hc, ?_, by omega⟩
    rw [← hc]
    unfold clashE
    rw [h.c1, h.c2, ← h.cons, hk, hcl]
  · refine ⟨[], 5, ?_, ?_, by simp⟩
    · unfold clashE; rw [if_neg (by rw [h.c1]; simp), if_pos hk]
    · unfold clashE; rw [if_neg (by rw [h.c2]; simp), if_pos (by rw [← h.cons]; exact hk)]
theorem Sh.fits {n : Int} {L M : List Lk} {P : Nat → Int} {k k2 : Nat} (h : Sh n L M P k k2) (h0 : P 0 = 0) {x y : List Int} (hx : (x.length : Int) = n) (hb : ∀ i, i < x.length → -1125899906842624 ≤ x.getD i 0 ∧ x.getD i 0 ≤ 1125899906842624) (hy : y.length = x.length) (hyx : ∀ i, i < x.length → y.getD i 0 = x.getD i 0 + P i) : ∃ r, Ch.fits n L x = (r, 0) ∧ Ch.fits n M y = (r, 0) := by
  obtain ⟨n1, n2, _, _⟩ := check_ok h.c1
  have hfx : x.any far = false := any_far_false fun i hi => by have := hb i hi; omega
  have hfy : y.any far = false := any_far_false fun i hi => by
    rw [hy] at hi
    have a := hb i hi
    have b := h.s.b i (by omega)
    rw [hyx i hi]
    omega
  have hs : solves L x = solves M y := by
    rw [Bool.eq_iff_iff, solves_ix, solves_ix, h.s.len]
    constructor
    · intro g j hj
      have := g j hj
      obtain ⟨f0, f1, t0, t1, _⟩ := okLk_spec (h.s.ok j hj)
      rw [h.s.at' j hj]
      simp only
      rw [hyx _ (by omega), hyx _ (by omega)]
      omega
    · intro g j hj
      have := g j hj
      obtain ⟨f0, f1, t0, t1, _⟩ := okLk_spec (h.s.ok j hj)
      rw [h.s.at' j hj] at this
      simp only at this
      rw [hyx _ (by omega), hyx _ (by omega)] at this
      omega
  have e0 : (y.getD 0 0 == 0) = (x.getD 0 0 == 0) := by rw [hyx 0 (by omega), h0, Int.add_zero]
  refine ⟨if solves L x then x.getD 0 0 == 0 else false, ?_, ?_⟩
  · unfold Ch.fits
    rw [if_neg (by rw [h.c1]; simp), if_neg (by rw [hfx]; simp; omega)]
    split <;> rfl
  · unfold Ch.fits
    rw [if_neg (by rw [h.c2]; simp), if_neg (by rw [hfy]; simp; omega), ← hs, e0]
    split <;> rfl
theorem sh_of {n : Int} {L : List Lk} {P : Nat → Int} (hc : (check n L).1 = 0) (hm : ∀ j, j < L.length → -1099511627776 ≤ (L.getD j noLk).m ∧ (L.getD j noLk).m ≤ 1099511627776) (hP : ∀ v, v < n.toNat → -1099511627776 ≤ P v ∧ P v ≤ 1099511627776) : ∃ k k2, Sh n L (shf L P L.length) P k k2 := by
  obtain ⟨n1, n2, n3, hok⟩ := check_ok hc
  have hN : ((n.toNat : Nat) : Int) = n := by omega
  have hok2 : ∀ l ∈ shf L P L.length, okLk n l = true := fun l hl => by
    obtain ⟨i, hi, rfl⟩ := lk_mem hl
    rw [shf_len] at hi
    rw [shf_at hi]
    obtain ⟨f0, f1, t0, t1, hne, _⟩ := okLk_spec (hok i hi)
    have hmi := hm i hi
    have a := hP (L.getD i noLk).t.toNat (by omega)
    have b := hP (L.getD i noLk).f.toNat (by omega)
    generalize P (L.getD i noLk).t.toNat = pt at a ⊢
    generalize P (L.getD i noLk).f.toNat = pf at b ⊢
    generalize L.getD i noLk = x at f0 f1 t0 t1 hne hmi ⊢
    unfold okLk isIx top
    simp
    omega
  have hc2 : (check n (shf L P L.length)).1 = 0 := check_of n1 n2 (by rw [shf_len]; exact n3) hok2
  obtain ⟨k, hk⟩ := en_ex n L
  obtain ⟨k2, hk2⟩ := en_ex n (shf L P L.length)
  exact ⟨k, k2, hk k (Nat.le_refl _), hk2 k2 (Nat.le_refl _), hc, hc2, shf_len _ _ _, fun i hi => shf_at hi, by rw [hN]; exact hok, by rw [hN]; exact (check_ok hc2).2.2.2, hP⟩
end Ch
