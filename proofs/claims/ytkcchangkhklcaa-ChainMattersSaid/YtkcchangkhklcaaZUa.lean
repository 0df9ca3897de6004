/- Package chain, mirrored: chains of links, and what sumsTo says of them. -/
import Derived.Test.YtkcchangkhklcaaZMTgFz
import Derived.Test.YtkcchangkhklcaaZ06
set_option linter.unusedSimpArgs false
set_option linter.unusedVariables false
namespace Ch

/-- the links l lead from u to v, none of them is left out, and w is their sum -/
def way (L : List Lk) (drop : List Bool) : Int → List Nat → Int → Int → Prop
  | u, [], v, w => u = v ∧ w = 0
  | u, i :: r, v, w => i < L.length ∧ drop.getD i false = false ∧ (L.getD i noLk).f = u ∧ way L drop (L.getD i noLk).t r v (w - (L.getD i noLk).m)

theorem way_append {L : List Lk} {drop : List Bool} : ∀ {l r : List Nat} {u v x w z : Int}, way L drop u l v w → way L drop v r x z → way L drop u (l ++ r) x (w + z)
  | [], r, u, v, x, w, z, h, h2 => by
    obtain ⟨rfl, rfl⟩ := h
    rw [Int.zero_add]; exact h2
  | i :: l, r, u, v, x, w, z, h, h2 => by
    obtain ⟨h0, hd, hf, ht⟩ := h
    refine ⟨h0, hd, hf, ?_⟩
    have := way_append ht h2
    rw [show w + z - (L.getD i noLk).m = w - (L.getD i noLk).m + z by omega]
    exact this
theorem way_split {L : List Lk} {drop : List Bool} : ∀ {l r : List Nat} {u x w : Int}, way L drop u (l ++ r) x w → ∃ v a, way L drop u l v a ∧ way L drop v r x (w - a)
  | [], r, u, x, w, h => ⟨u, 0, ⟨rfl, rfl⟩, by rw [Int.sub_zero]; exact h⟩
  | i :: l, r, u, x, w, h => by
    obtain ⟨h0, hd, hf, ht⟩ := h
    obtain ⟨v, a, h1, h2⟩ := way_split (l := l) ht
    refine ⟨v, a + (L.getD i noLk).m, ⟨h0, hd, hf, ?_⟩, ?_⟩
    · rw [show a + (L.getD i noLk).m - (L.getD i noLk).m = a by omega]; exact h1
    · rw [show w - (a + (L.getD i noLk).m) = w - (L.getD i noLk).m - a by omega]; exact h2
theorem way_det {L : List Lk} {drop : List Bool} : ∀ {l : List Nat} {u v w v' w' : Int}, way L drop u l v w → way L drop u l v' w' → v = v' ∧ w = w'
  | [], u, v, w, v', w', h, h2 => ⟨h.1.symm.trans h2.1, h.2.trans h2.2.symm⟩
  | i :: l, u, v, w, v', w', h, h2 => by
    obtain ⟨_, _, _, h⟩ := h
    obtain ⟨_, _, _, h2⟩ := h2
    have := way_det h h2
    exact ⟨this.1, by omega⟩
theorem way_one {L : List Lk} {drop : List Bool} {i : Nat} (h : i < L.length) (hd : drop.getD i false = false) : way L drop (L.getD i noLk).f [i] (L.getD i noLk).t (L.getD i noLk).m :=
  ⟨h, hd, rfl, rfl, by omega⟩

theorem mem_links {L : List Lk} {drop : List Bool} {i : Nat} (h : i < L.length) (hd : drop.getD i false = false) (ht : 0 ≤ (L.getD i noLk).t) : L.getD i noLk ∈ linksInto L drop (L.getD i noLk).t.toNat := by
  unfold linksInto into
  refine List.mem_map.2 ⟨i, List.mem_filter.2 ⟨List.mem_filter.2 ⟨List.mem_range.2 h, by rw [beq_iff_eq]; omega⟩, by rw [hd]; rfl⟩, rfl⟩
theorem mem_links_inv {L : List Lk} {drop : List Bool} {v : Nat} {l : Lk} (h : l ∈ linksInto L drop v) : ∃ i, i < L.length ∧ drop.getD i false = false ∧ l = L.getD i noLk ∧ l.t = (v : Int) := by
  unfold linksInto at h
  obtain ⟨i, hi, rfl⟩ := List.mem_map.1 h
  obtain ⟨h1, hd⟩ := List.mem_filter.1 hi
  unfold into at h1
  obtain ⟨h2, h3⟩ := List.mem_filter.1 h1
  exact ⟨i, List.mem_range.1 h2, by simpa using hd, rfl, by simpa using h3⟩

theorem way_sol {n : Nat} {L : List Lk} {drop : List Bool} {σ : Nat → Int} (hok : ∀ j, j < L.length → okLk n (L.getD j noLk) = true) (hσ : Sol L drop σ) : ∀ {l : List Nat} {u v w : Int}, way L drop u l v w → σ u.toNat ≤ σ v.toNat + w
  | [], u, v, w, h => by obtain ⟨rfl, rfl⟩ := h; omega
  | i :: r, u, v, w, h => by
    obtain ⟨h0, hd, hf, ht⟩ := h
    have ih := way_sol hok hσ ht
    have h1 := hσ _ _ (mem_links h0 hd (okLk_spec (hok i h0)).2.2.1)
    rw [hf] at h1
    omega
theorem way_small {n : Nat} {L : List Lk} {drop : List Bool} (hok : ∀ j, j < L.length → okLk n (L.getD j noLk) = true) : ∀ {l : List Nat} {u v w : Int}, way L drop u l v w → -4503599627370496 * (l.length : Int) ≤ w ∧ w ≤ 4503599627370496 * (l.length : Int)
  | [], u, v, w, h => by obtain ⟨rfl, rfl⟩ := h; simp
  | i :: r, u, v, w, h => by
    obtain ⟨h0, hd, hf, ht⟩ := h
    have ih := way_small hok ht
    obtain ⟨_, _, _, _, _, m0, m1⟩ := okLk_spec (hok i h0)
    rw [List.length_cons]
    omega
theorem way_end {n : Nat} {L : List Lk} {drop : List Bool} (hok : ∀ j, j < L.length → okLk n (L.getD j noLk) = true) : ∀ {l : List Nat} {u v w : Int}, 0 ≤ u → u < n → way L drop u l v w → 0 ≤ v ∧ v < n
  | [], u, v, w, h1, h2, h => by obtain ⟨rfl, _⟩ := h; exact ⟨h1, h2⟩
  | i :: r, u, v, w, _, _, h => by
    obtain ⟨h0, hd, hf, ht⟩ := h
    obtain ⟨_, _, t0, t1, _⟩ := okLk_spec (hok i h0)
    exact way_end hok t0 t1 ht
theorem way_begin {n : Nat} {L : List Lk} {drop : List Bool} (hok : ∀ j, j < L.length → okLk n (L.getD j noLk) = true) {l : List Nat} {u v w : Int} (h : way L drop u l v w) (hv : 0 ≤ v ∧ v < n) : 0 ≤ u ∧ u < n := by
  cases l with
  | nil => rw [h.1]; exact hv
  | cons i r =>
    obtain ⟨h0, _, hf, _⟩ := h
    obtain ⟨f0, f1, _⟩ := okLk_spec (hok i h0)
    rw [hf] at f0 f1
    exact ⟨f0, f1⟩

/-! ### one link more in front -/
theorem set_min {a : List Int} {j i : Nat} {z : Int} (hi : i < a.length) :
    (a.set j (min (a.getD j 0) z)).getD i 0 ≤ a.getD i 0 ∧ ((a.set j (min (a.getD j 0) z)).getD i 0 = a.getD i 0 ∨ (j = i ∧ (a.set j (min (a.getD j 0) z)).getD i 0 = z)) ∧ (i = j → (a.set j (min (a.getD j 0) z)).getD i 0 ≤ z) := by
  rw [getD_set hi]
  by_cases e : i = j
  · subst e
    rw [if_pos rfl]
    omega
  · rw [if_neg e]
    exact ⟨Int.le_refl _, Or.inl rfl, fun h => absurd h e⟩
theorem lenL_len {z : Int} : ∀ {pre : List Lk} {a : List Int}, (lenL z pre a).length = a.length
  | [], _ => rfl
  | l :: r, a => by
    have e : lenL z (l :: r) a = lenL z r (a.set l.f.toNat (min (a.getD l.f.toNat 0) (z + l.m))) := rfl
    rw [e, lenL_len, List.length_set]
theorem lenL_at {z : Int} {u : Nat} : ∀ {pre : List Lk} {a : List Int}, u < a.length → (lenL z pre a).getD u 0 ≤ a.getD u 0 ∧ ((lenL z pre a).getD u 0 = a.getD u 0 ∨ ∃ l ∈ pre, l.f.toNat = u ∧ (lenL z pre a).getD u 0 = z + l.m) ∧ ∀ l ∈ pre, l.f.toNat = u → (lenL z pre a).getD u 0 ≤ z + l.m
  | [], a, _ => ⟨Int.le_refl _, Or.inl rfl, fun _ h => absurd h List.not_mem_nil⟩
  | l :: r, a, hu => by
    obtain ⟨h1, h2, h3⟩ := lenL_at (z := z) (u := u) (pre := r) (a := a.set l.f.toNat (min (a.getD l.f.toNat 0) (z + l.m))) (by rw [List.length_set]; exact hu)
    obtain ⟨g1, g2, g3⟩ := set_min (j := l.f.toNat) (z := z + l.m) hu
    have e : lenL z (l :: r) a = lenL z r (a.set l.f.toNat (min (a.getD l.f.toNat 0) (z + l.m))) := rfl
    rw [e]
    refine ⟨Int.le_trans h1 g1, ?_, fun k hk hf => ?_⟩
    · rcases h2 with h2 | ⟨k, hk, hf, h2⟩
      · rcases g2 with g2 | ⟨g2, g4⟩
        · exact Or.inl (h2.trans g2)
        · exact Or.inr ⟨l, List.mem_cons_self, g2, h2.trans g4⟩
      · exact Or.inr ⟨k, List.mem_cons_of_mem _ hk, hf, h2⟩
    · rcases List.mem_cons.1 hk with rfl | hk
      · exact Int.le_trans h1 (g3 hf.symm)
      · exact h3 k hk hf
theorem unb_at {n u : Nat} (hu : u < n) : (unbound n).getD u 0 = free := by
  unfold unbound
  rw [List.getD, List.getElem?_replicate, if_pos hu]; rfl
theorem lenK_len {n : Nat} {L : List Lk} {drop : List Bool} {s : List Int} : ∀ k, (lenK n L drop s k).length = n
  | 0 => by rw [lenK_zero]; unfold unbound; rw [List.length_replicate]
  | k + 1 => by
    by_cases e : s.getD k 0 = 1152921504606846976
    · rw [lenK_free e]; exact lenK_len k
    · rw [lenK_next e, lenL_len]; exact lenK_len k
theorem lenK_at {n : Nat} {L : List Lk} {drop : List Bool} {s : List Int} {u : Nat} (hu : u < n) : ∀ k,
    ((lenK n L drop s k).getD u 0 = free ∨ ∃ v l, v < k ∧ s.getD v 0 ≠ free ∧ l ∈ linksInto L drop v ∧ l.f.toNat = u ∧ (lenK n L drop s k).getD u 0 = s.getD v 0 + l.m) ∧
    ∀ v l, v < k → s.getD v 0 ≠ free → l ∈ linksInto L drop v → l.f.toNat = u → (lenK n L drop s k).getD u 0 ≤ s.getD v 0 + l.m
  | 0 => ⟨Or.inl (unb_at hu), fun v l h => absurd h (by omega)⟩
  | k + 1 => by
    obtain ⟨h1, h2⟩ := lenK_at (s := s) (L := L) (drop := drop) hu k
    by_cases e : s.getD k 0 = 1152921504606846976
    · rw [lenK_free e]
      refine ⟨h1.imp id (fun ⟨v, l, hv, h⟩ => ⟨v, l, by omega, h⟩), fun v l hv hs hl hf => ?_⟩
      have : v ≠ k := fun h => hs (by rw [h]; exact e)
      exact h2 v l (by omega) hs hl hf
    · rw [lenK_next e]
      obtain ⟨g1, g2, g3⟩ := lenL_at (z := s.getD k 0) (u := u) (pre := linksInto L drop k) (a := lenK n L drop s k) (by rw [lenK_len]; exact hu)
      refine ⟨?_, fun v l hv hs hl hf => ?_⟩
      · rcases g2 with g2 | ⟨l, hl, hf, g2⟩
        · rw [g2]
          exact h1.imp id (fun ⟨v, l, hv, h⟩ => ⟨v, l, by omega, h⟩)
        · exact Or.inr ⟨k, l, by omega, e, hl, hf, g2⟩
      · by_cases hk : v = k
        · subst hk; exact g3 l hl hf
        · exact Int.le_trans g1 (h2 v l (by omega) hs hl hf)

/-- no chain of k links has a lesser sum than sumsTo says -/
theorem sums_le {n : Nat} {L : List Lk} {drop : List Bool} (hok : ∀ j, j < L.length → okLk n (L.getD j noLk) = true) {v : Nat} (hv : v < n) : ∀ {l : List Nat} {u w : Int}, l.length ≤ 200 → way L drop u l v w → (sumsTo n L drop v l.length).getD u.toNat 0 ≤ w
  | [], u, w, _, h => by
    obtain ⟨rfl, rfl⟩ := h
    show ((unbound n).set v 0).getD v 0 ≤ 0
    rw [set_same (by unfold unbound; rw [List.length_replicate]; exact hv)]
    exact Int.le_refl _
  | i :: r, u, w, hlen, h => by
    obtain ⟨h0, hd, hf, ht⟩ := h
    rw [List.length_cons] at hlen
    have ih := sums_le hok hv (by omega) ht
    obtain ⟨f0, f1, t0, t1, _, m0, m1⟩ := okLk_spec (hok i h0)
    have hs := way_small hok ht
    show (lengthen n L drop (sumsTo n L drop v r.length)).getD u.toNat 0 ≤ w
    rw [← lenK_all]
    have hun : u.toNat < n := by rw [← hf]; omega
    have := (lenK_at (n := n) (L := L) (drop := drop) (s := sumsTo n L drop v r.length) (u := u.toNat) hun n).2 (L.getD i noLk).t.toNat (L.getD i noLk) (by omega) (fun e => by rw [e] at ih; unfold free at ih; omega) (mem_links h0 hd t0) (by rw [hf])
    omega
/-- and some chain has this sum, if there is one -/
theorem sums_way {n : Nat} {L : List Lk} {drop : List Bool} (hok : ∀ j, j < L.length → okLk n (L.getD j noLk) = true) {v : Nat} : ∀ (k : Nat) {u : Nat}, u < n → (sumsTo n L drop v k).getD u 0 ≠ free → ∃ l : List Nat, l.length = k ∧ way L drop u l v ((sumsTo n L drop v k).getD u 0)
  | 0, u, hu, h => by
    have h : ((unbound n).set v 0).getD u 0 ≠ free := h
    refine ⟨[], rfl, ?_⟩
    show (u : Int) = v ∧ ((unbound n).set v 0).getD u 0 = 0
    by_cases e : v = u
    · subst e
      exact ⟨rfl, set_same (by unfold unbound; rw [List.length_replicate]; exact hu)⟩
    · rw [set_other e, unb_at hu] at h
      exact absurd rfl h
  | k + 1, u, hu, h => by
    have h : (lengthen n L drop (sumsTo n L drop v k)).getD u 0 ≠ free := h
    show ∃ l : List Nat, l.length = k + 1 ∧ way L drop u l v ((lengthen n L drop (sumsTo n L drop v k)).getD u 0)
    rw [← lenK_all] at h ⊢
    rcases (lenK_at (L := L) (drop := drop) (s := sumsTo n L drop v k) hu n).1 with e | ⟨t, l, htn, hs, hl, hf, e⟩
    · exact absurd e h
    · obtain ⟨i, hi, hd, el, elt⟩ := mem_links_inv hl
      obtain ⟨r, hr, hw⟩ := sums_way hok k htn hs
      obtain ⟨f0, _⟩ := okLk_spec (hok i hi)
      rw [el] at hf elt e
      refine ⟨i :: r, by rw [List.length_cons, hr], hi, hd, by omega, ?_⟩
      rw [elt, e, show (sumsTo n L drop v k).getD t 0 + (L.getD i noLk).m - (L.getD i noLk).m = (sumsTo n L drop v k).getD t 0 by omega]
      exact hw
theorem sums_len {n : Nat} {L : List Lk} {drop : List Bool} {v : Nat} : ∀ k, (sumsTo n L drop v k).length = n
  | 0 => by show ((unbound n).set v 0).length = n; unfold unbound; rw [List.length_set, List.length_replicate]
  | k + 1 => by show (lengthen n L drop (sumsTo n L drop v k)).length = n; rw [← lenK_all]; exact lenK_len n

/-! ### what settle finds are sums of chains -/
structure Wy (n : Nat) (L : List Lk) (drop : List Bool) (v : Int) (x : St) : Prop where
  q : ∀ i ∈ x.q, x.s.getD i 0 ≠ free
  w : ∀ i, i < n → x.s.getD i 0 = free ∨ ∃ l : List Nat, (l.length : Int) = x.c.getD i 0 ∧ way L drop i l v (x.s.getD i 0)

theorem Wy.low {n u f j : Nat} {L : List Lk} {drop : List Bool} {v : Int} {x : St} (hw : WF n x) (h : Wy n L drop v x) (hu : u < n) (hf : f < n) (hj : j < L.length) (hd : drop.getD j false = false) (ejf : (L.getD j noLk).f = f) (ejt : (L.getD j noLk).t = u) (hsu : x.s.getD u 0 ≠ free) (hlt : x.s.getD u 0 + (L.getD j noLk).m < x.s.getD f 0) {ws : List Bool} {q : List Nat} (hq : ∀ i ∈ q, i ∈ x.q ∨ i = f) :
    Wy n L drop v ⟨x.s.set f (x.s.getD u 0 + (L.getD j noLk).m), ws, x.c.set f (x.c.getD u 0 + 1), q⟩ := by
  generalize hm : (L.getD j noLk).m = m at *
  have e1 : (x.s.set f (x.s.getD u 0 + m)).getD f 0 = x.s.getD u 0 + m := set_same (by rw [hw.s]; exact hf)
  have e2 : (x.c.set f (x.c.getD u 0 + 1)).getD f 0 = x.c.getD u 0 + 1 := set_same (by rw [hw.c]; have := hw.n2; omega)
  have e3 : ∀ p, p ≠ f → (x.s.set f (x.s.getD u 0 + m)).getD p 0 = x.s.getD p 0 := fun p hp => set_other (Ne.symm hp)
  have e4 : ∀ p, p ≠ f → (x.c.set f (x.c.getD u 0 + 1)).getD p 0 = x.c.getD p 0 := fun p hp => set_other (Ne.symm hp)
  have hhi := hw.hi f hf
  refine ⟨fun i hi => ?_, fun i hi => ?_⟩
  · show (x.s.set f (x.s.getD u 0 + m)).getD i 0 ≠ free
    by_cases e : i = f
    · rw [e, e1]; unfold free; omega
    · rw [e3 i e]
      exact h.q i ((hq i hi).resolve_right e)
  · show (x.s.set f (x.s.getD u 0 + m)).getD i 0 = free ∨ ∃ l : List Nat, (l.length : Int) = (x.c.set f (x.c.getD u 0 + 1)).getD i 0 ∧ way L drop i l v ((x.s.set f (x.s.getD u 0 + m)).getD i 0)
    by_cases e : i = f
    · rw [e, e1, e2]
      obtain ⟨l, hl, hlw⟩ := (h.w u hu).resolve_left hsu
      refine .inr ⟨j :: l, by rw [List.length_cons]; omega, hj, hd, ejf, ?_⟩
      rw [hm, ejt, show x.s.getD u 0 + m - m = x.s.getD u 0 by omega]
      exact hlw
    · rw [e3 i e, e4 i e]; exact h.w i hi
theorem Wy.relax {n u : Nat} {L : List Lk} {drop : List Bool} {v : Int} {l : Lk} {x y : St} (hok : ∀ j, j < L.length → okLk n (L.getD j noLk) = true) (hw : WF n x) (h : Wy n L drop v x) (hu : u < n) (hl : l ∈ linksInto L drop u) (hsu : x.s.getD u 0 ≠ free) (hr : relax n u l x = some y) : Wy n L drop v y ∧ y.s.getD u 0 ≠ free := by
  obtain ⟨j, hj, hd, e, ht⟩ := mem_links_inv hl
  have h9 := hok j hj
  rw [← e] at h9
  obtain ⟨f0, f1, _, _, hne, _, m1⟩ := okLk_spec h9
  have hf : l.f.toNat < n := by omega
  have hlu : l.f.toNat ≠ u := fun e2 => hne (by omega)
  have e4 : (x.s.set l.f.toNat (x.s.getD u 0 + l.m)).getD u 0 = x.s.getD u 0 := set_other hlu
  have hlow : ∀ {ws : List Bool} {q : List Nat}, x.s.getD u 0 + l.m < x.s.getD l.f.toNat 0 → (∀ i ∈ q, i ∈ x.q ∨ i = l.f.toNat) → Wy n L drop v ⟨x.s.set l.f.toNat (x.s.getD u 0 + l.m), ws, x.c.set l.f.toNat (x.c.getD u 0 + 1), q⟩ := fun {ws q} hlt hq => by
    have := h.low hw hu hf hj hd (by rw [← e]; omega) (by rw [← e]; exact ht) hsu (by rw [← e]; exact hlt) (ws := ws) (q := q) hq
    rw [← e] at this
    exact this
  unfold Ch.relax at hr
  split at hr
  · cases hr; exact ⟨h, hsu⟩
  · rename_i h1
    split at hr
    · cases hr
    · split at hr
      · cases hr
        exact ⟨hlow (by omega) (fun i hi => .inl hi), by show (x.s.set l.f.toNat (x.s.getD u 0 + l.m)).getD u 0 ≠ free; rw [e4]; exact hsu⟩
      · cases hr
        exact ⟨hlow (by omega) (fun i hi => (List.mem_append.1 hi).imp id List.mem_singleton.1), by show (x.s.set l.f.toNat (x.s.getD u 0 + l.m)).getD u 0 ≠ free; rw [e4]; exact hsu⟩
theorem Wy.relaxAll {n u : Nat} {L : List Lk} {drop : List Bool} {v : Int} (hok : ∀ j, j < L.length → okLk n (L.getD j noLk) = true) (hu : u < n) : ∀ {ls : List Lk} {x y : St}, WF n x → Wy n L drop v x → x.s.getD u 0 ≠ free → (∀ l ∈ ls, l ∈ linksInto L drop u) → Ch.relaxAll n u ls x = some y → Wy n L drop v y
  | [], x, y, _, h, _, _, hr => by cases hr; exact h
  | l :: r, x, y, hw, h, hsu, hl, hr => by
    unfold Ch.relaxAll at hr
    split at hr
    · cases hr
    · rename_i z hz
      have h1 := hl l List.mem_cons_self
      have h4 := h.relax hok hw hu h1 hsu hz
      obtain ⟨j, hj, _, e, _⟩ := mem_links_inv h1
      exact Wy.relaxAll hok hu (hw.relax hu (by rw [e]; exact hok j hj) hz) h4.1 h4.2 (fun k hk => hl k (List.mem_cons_of_mem _ hk)) hr
theorem settleGo_ways {n : Nat} {L : List Lk} {drop : List Bool} {v : Int} (hok : ∀ j, j < L.length → okLk n (L.getD j noLk) = true) : ∀ {k : Nat} {x : St} {s : List Int}, WF n x → Wy n L drop v x → settleGo n L drop k x = some (some s) → ∃ y : St, WF n y ∧ Wy n L drop v y ∧ y.s = s
  | 0, x, s, _, _, h => by cases h
  | k + 1, x, s, hw, hx, h => by
    unfold settleGo at h
    split at h
    · cases h; exact ⟨x, hw, hx, rfl⟩
    · rename_i u q hq
      have hu := (hw.q u (by rw [hq]; exact List.mem_cons_self)).1
      split at h
      · cases h
      · rename_i y hy
        have hls : ∀ l ∈ linksInto L drop u, okLk n l = true := fun l hl => by
          obtain ⟨i, hi, _, e, _⟩ := mem_links_inv hl
          rw [e]; exact hok i hi
        have h0 : Wy n L drop v { x with w := x.w.set u false, q := q } := ⟨fun i hi => hx.q i (by rw [hq]; exact List.mem_cons_of_mem _ hi), hx.w⟩
        have h2 := Wy.relaxAll hok hu (hw.take hq) h0 (hx.q u (by rw [hq]; exact List.mem_cons_self)) (fun l hl => hl) hy
        exact settleGo_ways hok (relaxAll_wf hu (hw.take hq) hls hy).1 h2 h
/-- a bound is the sum of a chain with fewer links than there are nodes -/
theorem bt_way {n : Nat} (h1 : 1 ≤ n) (h2 : n ≤ 60) {L : List Lk} {drop : List Bool} (hok : ∀ j, j < L.length → okLk n (L.getD j noLk) = true) {k v : Nat} {s : List Int} (h : boundsTo n L drop k v = some (some s)) {i : Nat} (hi : i < n) (hs : s.getD i 0 ≠ free) :
    ∃ l : List Nat, l.length < n ∧ way L drop i l v (s.getD i 0) := by
  have hw := (begin_to n v).wf h1 h2
  have h0 : Wy n L drop v (settle0 ((unbound n).set v 0)) := by
    refine ⟨fun j hj => ?_, fun j hj => ?_⟩
    · have h3 := (List.mem_filter.1 hj).2
      rw [bne_iff_ne] at h3
      exact h3
    · by_cases e : v = j
      · subst e
        refine .inr ⟨[], ?_, ?_⟩
        · show (0 : Int) = (List.replicate 60 (0 : Int)).getD v 0
          rw [List.getD, List.getElem?_replicate]
          split <;> rfl
        · show (v : Int) = v ∧ ((unbound n).set v 0).getD v 0 = 0
          exact ⟨rfl, set_same (by unfold unbound; rw [List.length_replicate]; exact hj)⟩
      · left
        show ((unbound n).set v 0).getD j 0 = free
        rw [set_other e]
        exact unb_at hj
  obtain ⟨y, hy, ha, rfl⟩ := settleGo_ways hok hw h0 h
  obtain ⟨l, hl, hlw⟩ := (ha.w i hi).resolve_left hs
  have := (hy.cb i hi).2
  exact ⟨l, by omega, hlw⟩
end Ch
