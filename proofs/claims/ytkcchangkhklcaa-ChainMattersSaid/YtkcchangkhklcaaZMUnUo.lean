/- Several texts one behind the other. -/
import Derived.Test.YtkcchangkhklcaaZMUjUk
import Derived.Test.YtkcchangkhklcaaZ06
import Derived.Test.YtkcchangkhklcaaZWo
set_option linter.unusedSimpArgs false
set_option linter.unusedVariables false
/- Package chain, mirrored: links that are left out, and the bounds that stay; Reduce and Idle. -/
namespace Ch

/-- each link of the one that is not left out has a way of the other that is no longer -/
def Cov (L : List Lk) (D : List Bool) (M : List Lk) (E : List Bool) : Prop := ∀ i, i < L.length → D.getD i false = false → ∃ r w, way M E (L.getD i noLk).f r (L.getD i noLk).t w ∧ w ≤ (L.getD i noLk).m
theorem Cov.way {L M : List Lk} {D E : List Bool} (h : Cov L D M E) : ∀ {l : List Nat} {u v w : Int}, Ch.way L D u l v w → ∃ r z, Ch.way M E u r v z ∧ z ≤ w
  | [], u, v, w, hw => ⟨[], w, hw, Int.le_refl _⟩
  | i :: l, u, v, w, hw => by
    obtain ⟨h0, hd, hf, ht⟩ := hw
    obtain ⟨r, z, hr, hz⟩ := h i h0 hd
    obtain ⟨q, y, hq, hy⟩ := Cov.way h ht
    rw [hf] at hr
    exact ⟨r ++ q, z + y, way_append hr hq, by omega⟩
theorem Cov.trans {L M N : List Lk} {D E F : List Bool} (h : Cov L D M E) (h2 : Cov M E N F) : Cov L D N F := fun i hi hd => by
  obtain ⟨r, w, hr, hw⟩ := h i hi hd
  obtain ⟨q, z, hq, hz⟩ := h2.way hr
  exact ⟨q, z, hq, by omega⟩
theorem cov_links {L M : List Lk} {D E : List Bool} (h : ∀ i, i < L.length → D.getD i false = false → ∃ j, j < M.length ∧ E.getD j false = false ∧ M.getD j noLk = L.getD i noLk) : Cov L D M E := fun i hi hd => by
  obtain ⟨j, hj, he, e⟩ := h i hi hd
  have := way_one hj he
  rw [e] at this
  exact ⟨[j], _, this, Int.le_refl _⟩
theorem cov_less {L : List Lk} {D E : List Bool} (h : ∀ i, i < L.length → D.getD i false = false → E.getD i false = false) : Cov L D L E := cov_links fun i hi hd => ⟨i, hi, h i hi hd, rfl⟩
theorem Cov.bt {n v : Nat} {L M : List Lk} {D E : List Bool} {s t : List Int} (h : Cov L D M E) (h2 : Cov M E L D) (hs : BT n L D v s) (ht : BT n M E v t) {u : Nat} (hu : u < n) : s.getD u 0 = t.getD u 0 := by
  have g1 : s.getD u 0 ≠ free → t.getD u 0 ≤ s.getD u 0 ∧ t.getD u 0 ≠ free := fun hf => by
    obtain ⟨l, _, hl⟩ := hs.at' u hu hf
    obtain ⟨r, z, hr, hz⟩ := h.way hl
    have := ht.up hr
    rw [show ((u : Int)).toNat = u from rfl] at this
    exact ⟨by omega, this.2⟩
  have g2 : t.getD u 0 ≠ free → s.getD u 0 ≤ t.getD u 0 ∧ s.getD u 0 ≠ free := fun hf => by
    obtain ⟨l, _, hl⟩ := ht.at' u hu hf
    obtain ⟨r, z, hr, hz⟩ := h2.way hl
    have := hs.up hr
    rw [show ((u : Int)).toNat = u from rfl] at this
    exact ⟨by omega, this.2⟩
  by_cases hf : s.getD u 0 = free
  · by_cases hg : t.getD u 0 = free
    · rw [hf, hg]
    · exact absurd hf (g2 hg).2
  · have a := g1 hf
    have b := g2 a.2
    omega
/-- equal bounds: the one covers the other -/
theorem cov_of_bt {n : Nat} {L M : List Lk} {D E : List Bool} (hok : ∀ j, j < L.length → okLk n (L.getD j noLk) = true) (H : ∀ v, v < n → ∃ s t, BT n L D v s ∧ BT n M E v t ∧ ∀ u, u < n → s.getD u 0 = t.getD u 0) : Cov L D M E := fun i hi hd => by
  obtain ⟨f0, f1, t0, t1, _, m0, m1⟩ := okLk_spec (hok i hi)
  obtain ⟨s, t, hs, ht, e⟩ := H (L.getD i noLk).t.toNat (by omega)
  have h1 := way_one hi hd
  rw [show (L.getD i noLk).t = (((L.getD i noLk).t.toNat : Nat) : Int) by omega] at h1
  have h2 := hs.up h1
  have e2 := e (L.getD i noLk).f.toNat (by omega)
  rw [e2] at h2
  obtain ⟨r, _, hr⟩ := ht.at' _ (by omega) h2.2
  rw [show (((L.getD i noLk).t.toNat : Nat) : Int) = (L.getD i noLk).t by omega, show (((L.getD i noLk).f.toNat : Nat) : Int) = (L.getD i noLk).f by omega] at hr
  exact ⟨r, _, hr, h2.1⟩
theorem sol_links {L M : List Lk} {D E : List Bool} {σ : Nat → Int} (h : ∀ j, j < M.length → E.getD j false = false → ∃ i, i < L.length ∧ D.getD i false = false ∧ L.getD i noLk = M.getD j noLk) (hs : Sol L D σ) : Sol M E σ := fun v l hl => by
  obtain ⟨j, hj, he, rfl, ht⟩ := mem_links_inv hl
  obtain ⟨i, hi, hd, e⟩ := h j hj he
  have h1 := mem_links hi hd (by rw [e, ht]; omega)
  rw [e, ht] at h1
  exact hs v _ h1

theorem sameLk_eq {a b : Lk} : sameLk a b = true ↔ a = b := by
  unfold sameLk
  simp only [Bool.and_eq_true, beq_iff_eq]
  constructor
  · rintro ⟨⟨h1, h2⟩, h3⟩
    cases a; cases b; simp at h1 h2 h3; subst h1; subst h2; subst h3; rfl
  · rintro rfl; exact ⟨⟨rfl, rfl⟩, rfl⟩
theorem twin_ex {D : List Bool} {q : Nat} {lq : Lk} : ∀ {L : List Lk} {k : Nat}, twin D q lq L k = true → ∃ i, i < L.length ∧ k + i ≠ q ∧ D.getD (k + i) false = false ∧ L.getD i noLk = lq
  | [], _, h => by cases h
  | l :: r, k, h => by
    rw [twin, Bool.or_eq_true] at h
    rcases h with h | h
    · simp only [Bool.and_eq_true, bne_iff_ne, Bool.not_eq_true'] at h
      exact ⟨0, by simp, by simpa using h.1.1, by simpa using h.1.2, by simpa using sameLk_eq.1 h.2⟩
    · obtain ⟨i, h1, h2, h3, h4⟩ := twin_ex h
      exact ⟨i + 1, by simpa using h1, by omega, by rw [show k + (i + 1) = k + 1 + i by omega]; exact h3, by simpa using h4⟩
theorem set_true_ne {D : List Bool} {q i : Nat} (h : i ≠ q) : (D.set q true).getD i false = D.getD i false := by
  rw [List.getD, List.getD, List.getElem?_set, if_neg (fun e => h e.symm)]
theorem set_true_eq {D : List Bool} {q : Nat} (h : q < D.length) : (D.set q true).getD q false = true := by
  rw [List.getD, List.getElem?_set, if_pos rfl, if_pos h]; rfl
theorem set_true_off {D : List Bool} {q i : Nat} (hq : q < D.length) (h : (D.set q true).getD i false = false) : i ≠ q ∧ D.getD i false = false := by
  have : i ≠ q := fun e => by rw [e, set_true_eq hq] at h; cases h
  rw [set_true_ne this] at h
  exact ⟨this, h⟩
/-- a link is spared exactly if the others cover it -/
theorem spares_iff {n k q : Nat} {L : List Lk} {D : List Bool} (hok : ∀ j, j < L.length → okLk n (L.getD j noLk) = true) (hq : q < L.length) (hD : D.getD q false = false)
    (hB : BT n L (D.set q true) (L.getD q noLk).t.toNat (bt n L (D.set q true) k (L.getD q noLk).t.toNat)) : spares n L D k q = true ↔ Cov L D L (D.set q true) := by
  obtain ⟨f0, f1, t0, t1, _, m0, m1⟩ := okLk_spec (hok q hq)
  have self : ∀ i, i < L.length → D.getD i false = false → i ≠ q → ∃ r w, way L (D.set q true) (L.getD i noLk).f r (L.getD i noLk).t w ∧ w ≤ (L.getD i noLk).m := fun i hi hd hne =>
    ⟨[i], _, way_one hi (by rw [set_true_ne hne]; exact hd), Int.le_refl _⟩
  unfold spares
  rw [Bool.or_eq_true, decide_eq_true_eq]
  constructor
  · intro h i hi hd
    by_cases e : i = q
    · subst e
      rcases h with h | h
      · obtain ⟨j, h1, h2, h3, h4⟩ := twin_ex h
        rw [Nat.zero_add] at h2 h3
        have := self j h1 h3 h2
        rw [h4] at this
        exact this
      · obtain ⟨r, _, hr⟩ := hB.at' (L.getD i noLk).f.toNat (by omega) (by unfold free; omega)
        rw [show (((L.getD i noLk).t.toNat : Nat) : Int) = (L.getD i noLk).t by omega, show (((L.getD i noLk).f.toNat : Nat) : Int) = (L.getD i noLk).f by omega] at hr
        exact ⟨r, _, hr, h⟩
    · exact self i hi hd e
  · intro h
    obtain ⟨r, w, hr, hw⟩ := h q hq hD
    rw [show (L.getD q noLk).t = (((L.getD q noLk).t.toNat : Nat) : Int) by omega] at hr
    exact .inr (Int.le_trans (hB.up hr).1 hw)

/-- all that fuel gives, whatever is left out -/
structure EA (n : Int) (L : List Lk) (k : Nat) : Prop where
  e : (check n L).1 = 0 → ∀ drop, enough n.toNat L drop k = true ∧ (cons n.toNat L drop k = true ↔ ∃ σ, Sol L drop σ)
theorem ea_ex (n : Int) (L : List Lk) : ∃ K, ∀ k, K ≤ k → EA n L k := by
  by_cases hc : (check n L).1 = 0
  · obtain ⟨n1, n2, _, hok⟩ := check_ok hc
    obtain ⟨K, hK⟩ := enough_ex (n := n.toNat) (by omega) (by omega) (L := L) (by rw [show ((n.toNat : Nat) : Int) = n by omega]; exact hok)
    exact ⟨K, fun k hk => ⟨fun _ drop => hK k drop hk⟩⟩
  · exact ⟨0, fun k _ => ⟨fun h => absurd h hc⟩⟩
theorem EA.en {n : Int} {L : List Lk} {k : Nat} (h : EA n L k) : EN n L k := ⟨fun hc => (h.e hc []).1, fun hc => (h.e hc []).2⟩
theorem sol_more {L : List Lk} {D : List Bool} {σ : Nat → Int} (hs : Sol L [] σ) : Sol L D σ := sol_links (fun j hj _ => ⟨j, hj, rfl, rfl⟩) hs
theorem EA.all {n : Int} {L : List Lk} {k : Nat} (h : EA n L k) (ho : opn n L [] k = 0) (D : List Bool) : enough n.toNat L D k = true ∧ cons n.toNat L D k = true := by
  obtain ⟨hc, _, hk⟩ := opn_ok ho
  obtain ⟨σ, hs⟩ := ((h.e hc []).2).1 hk
  exact ⟨(h.e hc D).1, ((h.e hc D).2).2 ⟨σ, sol_more hs⟩⟩
theorem EA.bt {n : Int} {L : List Lk} {k : Nat} (h : EA n L k) (ho : opn n L [] k = 0) (D : List Bool) {v : Nat} (hv : v < n.toNat) : BT n.toNat L D v (Ch.bt n.toNat L D k v) := by
  obtain ⟨hc, _, hk⟩ := opn_ok ho
  obtain ⟨n1, n2, _, hok⟩ := check_ok hc
  have hok' : ∀ j, j < L.length → okLk n.toNat (L.getD j noLk) = true := by rw [show ((n.toNat : Nat) : Int) = n by omega]; exact hok
  obtain ⟨h1, h2⟩ := h.all ho D
  obtain ⟨σ, hs⟩ := ((h.e hc []).2).1 hk
  obtain ⟨b1, _, _⟩ := enough_bt h1 h2 hv
  exact bt_spec (by omega) (by omega) hok' hv b1 ⟨σ, sol_more hs⟩
theorem EA.spares {n : Int} {L : List Lk} {k q : Nat} {D : List Bool} (h : EA n L k) (ho : opn n L [] k = 0) (hq : q < L.length) (hD : D.getD q false = false) : Ch.spares n.toNat L D k q = true ↔ Cov L D L (D.set q true) := by
  obtain ⟨hc, _, _⟩ := opn_ok ho
  obtain ⟨n1, n2, _, hok⟩ := check_ok hc
  have hok' : ∀ j, j < L.length → okLk n.toNat (L.getD j noLk) = true := by rw [show ((n.toNat : Nat) : Int) = n by omega]; exact hok
  obtain ⟨f0, f1, t0, t1, _⟩ := okLk_spec (hok q hq)
  exact spares_iff hok' hq hD (h.bt ho _ (by omega))

theorem rd_on {n k : Nat} {L : List Lk} {i : Nat} : ∀ {c d : Nat}, c ≤ d → (rd n L k c).getD i false = true → (rd n L k d).getD i false = true
  | c, 0, hcd, h => by obtain rfl : c = 0 := by omega
                       exact h
  | c, d + 1, hcd, h => by
    by_cases e : c = d + 1
    · subst e; exact h
    · have ih := rd_on (d := d) (by omega) h
      rw [rd]
      split
      · by_cases e2 : i = L.length - 1 - d
        · subst e2
          by_cases e3 : L.length - 1 - d < (rd n L k d).length
          · exact set_true_eq e3
          · rw [List.set_eq_of_length_le (by omega)]; exact ih
        · rw [set_true_ne e2]; exact ih
      · exact ih
theorem rd_off' {n k : Nat} {L : List Lk} {c d i : Nat} (hcd : c ≤ d) (h : (rd n L k d).getD i false = false) : (rd n L k c).getD i false = false := by
  cases h2 : (rd n L k c).getD i false
  · rfl
  · rw [rd_on hcd h2] at h; cases h
/-- what is left covers all -/
theorem EA.rd_cov {n : Int} {L : List Lk} {k : Nat} (h : EA n L k) (ho : opn n L [] k = 0) : ∀ c, c ≤ L.length → Cov L [] L (rd n.toNat L k c)
  | 0, _ => cov_less fun i _ _ => none_get _ _
  | c + 1, hc => by
    have ih := h.rd_cov ho c (by omega)
    cases hs : Ch.spares n.toNat L (rd n.toNat L k c) k (L.length - 1 - c)
    · rw [rd_miss hs]; exact ih
    · rw [rd_hit hs]
      exact ih.trans ((h.spares ho (by omega) (rd_off _ _ _ _ _ (by omega))).1 hs)
/-- .. and no link that is left is spared -/
theorem EA.rd_min {n : Int} {L : List Lk} {k q : Nat} (h : EA n L k) (ho : opn n L [] k = 0) (hq : q < L.length) (hl : (rd n.toNat L k L.length).getD q false = false) : ¬ Cov L (rd n.toNat L k (L.length - 1 - q)) L ((rd n.toNat L k (L.length - 1 - q)).set q true) := fun hc => by
  have e : L.length - 1 - (L.length - 1 - q) = q := by omega
  have hs := (h.spares ho hq (rd_off _ _ _ _ _ (by omega))).2 hc
  have h1 := rd_hit (n := n.toNat) (L := L) (k := k) (c := L.length - 1 - q) (by rw [e]; exact hs)
  rw [e] at h1
  have h2 : (rd n.toNat L k (L.length - 1 - q + 1)).getD q false = true := by rw [h1]; exact set_true_eq (by rw [rd_len]; exact hq)
  rw [rd_on (d := L.length) (by omega) h2] at hl
  cases hl

/-- the links that are not left out -/
def kept (L : List Lk) (D : List Bool) : List Lk := (leftK D L.length).map fun i => L.getD i noLk
theorem leftK_mem {D : List Bool} {j i : Nat} : i ∈ leftK D j ↔ i < j ∧ D.getD i false = false := by
  unfold leftK
  rw [List.mem_filter, List.mem_range]
  simp
theorem leftK_nodup (D : List Bool) (j : Nat) : (leftK D j).Nodup := List.Nodup.sublist List.filter_sublist List.nodup_range
theorem kept_len (L : List Lk) (D : List Bool) : (kept L D).length = (leftK D L.length).length := by simp [kept]
theorem kept_at {L : List Lk} {D : List Bool} {j : Nat} (h : j < (leftK D L.length).length) : (kept L D).getD j noLk = L.getD ((leftK D L.length).getD j 0) noLk := by
  unfold kept
  rw [List.getD, List.getElem?_map, List.getElem?_eq_getElem h, List.getD, List.getD, List.getElem?_eq_getElem h]; rfl
theorem kept_of {L : List Lk} {D : List Bool} {i : Nat} (hi : i < L.length) (hd : D.getD i false = false) : ∃ j, j < (leftK D L.length).length ∧ (leftK D L.length).getD j 0 = i := by
  obtain ⟨j, hj, e⟩ := List.getElem_of_mem (leftK_mem.2 ⟨hi, hd⟩)
  exact ⟨j, hj, by rw [List.getD, List.getElem?_eq_getElem hj]; exact e⟩
theorem kept_ix {L : List Lk} {D : List Bool} {j : Nat} (h : j < (leftK D L.length).length) : (leftK D L.length).getD j 0 < L.length ∧ D.getD ((leftK D L.length).getD j 0) false = false := by
  have : (leftK D L.length).getD j 0 ∈ leftK D L.length := by rw [List.getD, List.getElem?_eq_getElem h]; exact List.getElem_mem h
  exact leftK_mem.1 this
theorem kept_inj {L : List Lk} {D : List Bool} {i j : Nat} (hi : i < (leftK D L.length).length) (hj : j < (leftK D L.length).length) (e : (leftK D L.length).getD i 0 = (leftK D L.length).getD j 0) : i = j := by
  rw [List.getD, List.getD, List.getElem?_eq_getElem hi, List.getElem?_eq_getElem hj] at e
  have hp := List.pairwise_iff_getElem.1 (leftK_nodup D L.length)
  have e : (leftK D L.length)[i] = (leftK D L.length)[j] := e
  rcases Nat.lt_trichotomy i j with h | h | h
  · exact absurd e (hp i j hi hj h)
  · exact h
  · exact absurd e.symm (hp j i hj hi h)
theorem kept_cov {L : List Lk} {D : List Bool} : Cov L D (kept L D) [] := cov_links fun i hi hd => by
  obtain ⟨j, hj, e⟩ := kept_of hi hd
  exact ⟨j, by rw [kept_len]; exact hj, rfl, by rw [kept_at hj, e]⟩
theorem cov_kept {L : List Lk} {D : List Bool} : Cov (kept L D) [] L D := cov_links fun j hj _ => by
  rw [kept_len] at hj
  obtain ⟨h1, h2⟩ := kept_ix hj
  exact ⟨_, h1, h2, (kept_at hj).symm⟩
theorem kept_sol {L : List Lk} {D : List Bool} {σ : Nat → Int} (hs : Sol L [] σ) : Sol (kept L D) [] σ := sol_links (fun j hj _ => by
  rw [kept_len] at hj
  exact ⟨_, (kept_ix hj).1, rfl, (kept_at hj).symm⟩) hs
theorem kept_check {n : Int} {L : List Lk} {D : List Bool} (h : (check n L).1 = 0) : (check n (kept L D)).1 = 0 := by
  obtain ⟨n1, n2, n3, hok⟩ := check_ok h
  have hl := leftK_len D L.length
  refine check_of n1 n2 (by rw [kept_len]; omega) fun l hl => ?_
  obtain ⟨j, hj, rfl⟩ := lk_mem hl
  rw [kept_len] at hj
  rw [kept_at hj]
  exact hok _ (kept_ix hj).1
theorem EA.kept_opn {n : Int} {L : List Lk} {k k2 : Nat} {D : List Bool} (h : EA n L k) (ho : opn n L [] k = 0) (h2 : EA n (kept L D) k2) : opn n (kept L D) [] k2 = 0 := by
  obtain ⟨hc, _, hk⟩ := opn_ok ho
  obtain ⟨σ, hs⟩ := ((h.e hc []).2).1 hk
  have hc2 := kept_check (D := D) hc
  rw [opn_nil hc2, if_pos (((h2.e hc2 []).2).2 ⟨σ, kept_sol hs⟩)]
/-- bounds without some links -/
theorem EA.kept_tb {n : Int} {L : List Lk} {k k2 : Nat} {D : List Bool} (h : EA n L k) (ho : opn n L [] k = 0) (h2 : EA n (kept L D) k2) : (∀ u v, u < n.toNat → v < n.toNat → tb n L k u v = tb n (kept L D) k2 u v) ↔ Cov L [] L D := by
  have ho2 := h.kept_opn ho h2
  obtain ⟨hc, _, _⟩ := opn_ok ho
  obtain ⟨n1, n2, _, hok⟩ := check_ok hc
  have hok' : ∀ j, j < L.length → okLk n.toNat (L.getD j noLk) = true := by rw [show ((n.toNat : Nat) : Int) = n by omega]; exact hok
  constructor
  · intro H
    exact (cov_of_bt hok' fun v hv => ⟨_, _, h.bt ho [] hv, h2.bt ho2 [] hv, fun u hu => H u v hu hv⟩).trans cov_kept
  · intro hC u v hu hv
    exact (hC.trans kept_cov).bt (cov_kept.trans (cov_less fun _ _ _ => rfl)) (h.bt ho [] hv) (h2.bt ho2 [] hv) hu
/-- what Reduce leaves: nothing of it is idle -/
theorem EA.red_idle {n : Int} {L : List Lk} {k k2 : Nat} (h : EA n L k) (ho : opn n L [] k = 0) (h2 : EA n (kept L (rd n.toNat L k L.length)) k2) : idleK n.toNat (kept L (rd n.toNat L k L.length)) k2 (kept L (rd n.toNat L k L.length)).length = [] := by
  have ho2 := h.kept_opn ho h2
  obtain ⟨D, hD⟩ : ∃ D, rd n.toNat L k L.length = D := ⟨_, rfl⟩
  have hmin := fun (q : Nat) (hq : q < L.length) (hl : D.getD q false = false) => h.rd_min ho hq (by rw [hD]; exact hl)
  have hoff := fun (c i : Nat) (hc : c ≤ L.length) (hl : D.getD i false = false) => rd_off' (n := n.toNat) (k := k) (L := L) hc (by rw [hD]; exact hl)
  rw [hD] at h2 ho2 ⊢
  unfold idleK
  rw [List.filter_eq_nil_iff]
  intro j hj hs
  rw [List.mem_range, kept_len] at hj
  have hc := (h2.spares ho2 (by rw [kept_len]; exact hj) (none_get _ _)).1 hs
  obtain ⟨q1, q2⟩ := kept_ix hj
  refine hmin _ q1 q2 fun i hi hd => ?_
  by_cases e : i = (leftK D L.length).getD j 0
  · obtain ⟨r, w, hr, hw⟩ := hc j (by rw [kept_len]; exact hj) (none_get _ _)
    rw [kept_at hj] at hr hw
    rw [e]
    have hcv : Cov (kept L D) ((none' (kept L D).length).set j true) L ((rd n.toNat L k (L.length - 1 - (leftK D L.length).getD j 0)).set ((leftK D L.length).getD j 0) true) := cov_links fun p hp hpd => by
      obtain ⟨hpj, _⟩ := set_true_off (by rw [none_len, kept_len]; exact hj) hpd
      rw [kept_len] at hp
      obtain ⟨p1, p2⟩ := kept_ix hp
      refine ⟨_, p1, ?_, (kept_at hp).symm⟩
      rw [set_true_ne (fun e => hpj (kept_inj hp hj e))]
      exact hoff _ _ (by omega) p2
    obtain ⟨r2, w2, hr2, hw2⟩ := hcv.way hr
    exact ⟨r2, w2, hr2, by omega⟩
  · exact ⟨[i], _, way_one hi (by rw [set_true_ne e]; exact hd), Int.le_refl _⟩
end Ch

/- Package chain, mirrored: the links that Reduce leaves, as the law gathers them. -/
namespace Ch

theorem mem_ints {l : List Nat} {i : Nat} : (i : Int) ∈ ints l ↔ i ∈ l := by
  unfold ints
  rw [List.mem_map]
  constructor
  · rintro ⟨j, hj, e⟩
    have : j = i := by omega
    rw [← this]; exact hj
  · intro h; exact ⟨i, h, rfl⟩
/-- of the first j indices those that are not in a list -/
def goneK (I : List Nat) (j : Nat) : List Nat := (List.range j).filter fun i => !decide ((i : Int) ∈ ints I)
theorem goneK_hit {I : List Nat} {j : Nat} (h : decide ((j : Int) ∈ ints I) = false) : goneK I (j + 1) = goneK I j ++ [j] := by
  unfold goneK
  rw [List.range_succ, List.filter_append, List.filter_cons, h]
  simp
theorem goneK_miss {I : List Nat} {j : Nat} (h : decide ((j : Int) ∈ ints I) = true) : goneK I (j + 1) = goneK I j := by
  unfold goneK
  rw [List.range_succ, List.filter_append, List.filter_cons, h]
  simp
theorem goneK_len (I : List Nat) (j : Nat) : (goneK I j).length ≤ j := by
  unfold goneK
  have := List.length_filter_le (fun i : Nat => !decide ((i : Int) ∈ ints I)) (List.range j)
  simpa using this
theorem wo_gone' {L : List Lk} {D : List Bool} {I : List Nat} (hI : ∀ i, i ∈ I ↔ i < L.length ∧ D.getD i false = false) : wo L (ints (goneK I L.length)) L.length = kept L D := by
  unfold wo kept leftK
  congr 1
  refine List.filter_congr fun i hi => ?_
  have hi := List.mem_range.1 hi
  have e : ((i : Int) ∈ ints (goneK I L.length)) ↔ D.getD i false = true := by
    rw [mem_ints]
    unfold goneK
    rw [List.mem_filter, List.mem_range]
    simp only [mem_ints, hI, Bool.not_eq_true', decide_eq_false_iff_not]
    constructor
    · rintro ⟨_, h⟩
      cases h2 : D.getD i false
      · exact absurd ⟨hi, h2⟩ h
      · rfl
    · intro h
      exact ⟨hi, fun h2 => by rw [h] at h2; cases h2.2⟩
  cases h : D.getD i false
  · rw [decide_eq_false (fun h2 => by have := e.1 h2; rw [h] at this; cases this)]
  · rw [decide_eq_true (e.2 h)]
theorem wo_gone {L : List Lk} {D : List Bool} : wo L (ints (goneK (leftK D L.length) L.length)) L.length = kept L D := wo_gone' fun _ => leftK_mem
/-- what Reduce gives, and what the system without the others has -/
theorem EA.reduce {n : Int} {L : List Lk} {k : Nat} (ho : opn n L [] k = 0) : reduce n L k = (leftK (rd n.toNat L k L.length) L.length, 0) := by
  unfold Ch.reduce
  rw [if_neg (by omega)]
theorem EA.rd_enough {n : Int} {L : List Lk} {k : Nat} (h : EA n L k) : opn n L [] k = 0 → ∀ c, c < L.length → enough n.toNat L ((rd n.toNat L k c).set (L.length - 1 - c) true) k = true ∧ cons n.toNat L ((rd n.toNat L k c).set (L.length - 1 - c) true) k = true := fun ho _ _ => h.all ho _
theorem EA.idle_enough {n : Int} {L : List Lk} {k : Nat} (h : EA n L k) : opn n L [] k = 0 → ∀ q, q < L.length → enough n.toNat L ((none' L.length).set q true) k = true ∧ cons n.toNat L ((none' L.length).set q true) k = true := fun ho _ _ => h.all ho _
end Ch
