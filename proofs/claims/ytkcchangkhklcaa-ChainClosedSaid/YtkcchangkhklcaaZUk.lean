/- Package chain, mirrored: a system with all links turned round. -/
import Derived.Test.YtkcchangkhklcaaZUj
set_option linter.unusedSimpArgs false
set_option linter.unusedVariables false
namespace Ch

theorem turn_at {L : List Lk} {i : Nat} (h : i < L.length) : (turned L).getD i noLk = ⟨(L.getD i noLk).t, (L.getD i noLk).f, (L.getD i noLk).m⟩ := by
  unfold turned
  rw [List.getD, List.getD, List.getElem?_map, List.getElem?_eq_getElem h]; rfl
theorem way_snoc {L : List Lk} {drop : List Bool} {i : Nat} {l : List Nat} {u w : Int} (hi : i < L.length) (hd : drop.getD i false = false) (h : way L drop u l (L.getD i noLk).f w) : way L drop u (l ++ [i]) (L.getD i noLk).t (w + (L.getD i noLk).m) :=
  way_append h (way_one hi hd)
theorem way_turn {L : List Lk} {drop : List Bool} : ∀ {l : List Nat} {u v w : Int}, way L drop u l v w → way (turned L) drop v l.reverse u w
  | [], u, v, w, h => ⟨h.1.symm, h.2⟩
  | i :: r, u, v, w, h => by
    obtain ⟨h0, hd, hf, ht⟩ := h
    have ih := way_turn ht
    have h1 : i < (turned L).length := by rw [turned_len]; exact h0
    have e := turn_at h0
    have h2 := way_snoc (L := turned L) h1 hd (l := r.reverse) (u := v) (w := w - (L.getD i noLk).m) (by rw [e]; exact ih)
    rw [e] at h2
    simp only at h2
    rw [hf, show w - (L.getD i noLk).m + (L.getD i noLk).m = w by omega] at h2
    rw [List.reverse_cons]
    exact h2
theorem turn_turn (L : List Lk) : turned (turned L) = L := by
  unfold turned
  rw [List.map_map]
  have : ((fun l : Lk => (⟨l.t, l.f, l.m⟩ : Lk)) ∘ fun l : Lk => ⟨l.t, l.f, l.m⟩) = id := by funext l; rfl
  rw [this, List.map_id]
theorem ok_turn {n : Int} {L : List Lk} (h : ∀ j, j < L.length → okLk n (L.getD j noLk) = true) : ∀ j, j < (turned L).length → okLk n ((turned L).getD j noLk) = true := fun j hj => by
  rw [turned_len] at hj
  rw [turn_at hj]
  have := okLk_spec (h j hj)
  generalize L.getD j noLk = x at this ⊢
  unfold okLk isIx top
  simp
  omega
theorem sol_turn {n : Nat} {L : List Lk} {drop : List Bool} {σ : Nat → Int} (hok : ∀ j, j < L.length → okLk n (L.getD j noLk) = true) (h : Sol L drop σ) : Sol (turned L) drop fun i => -(σ i) := fun v l hl => by
  obtain ⟨i, hi, hd, rfl, ht⟩ := mem_links_inv hl
  rw [turned_len] at hi
  rw [turn_at hi] at ht ⊢
  simp only at ht ⊢
  have h1 := h _ _ (mem_links hi hd (okLk_spec (hok i hi)).2.2.1)
  rw [ht, show ((v : Int)).toNat = v from rfl] at h1
  omega
theorem check_turn {n : Int} {L : List Lk} : (check n (turned L)).1 = (check n L).1 := by
  by_cases h0 : n < 1 ∨ 60 < n
  · rw [check_n h0, check_n h0]
  · by_cases h1 : 300 < L.length
    · rw [check_l h0 h1, check_l h0 (by rw [turned_len]; exact h1)]
    · have key : ∀ {A : List Lk}, ¬ 300 < A.length → (check n A).1 = 0 → (check n (turned A)).1 = 0 := fun {A} hb hc => by
        obtain ⟨_, _, _, hok⟩ := check_ok hc
        refine check_of (by omega) (by omega) (by rw [turned_len]; omega) fun l hl => ?_
        obtain ⟨k, hk, rfl⟩ := lk_mem hl
        exact ok_turn hok k hk
      by_cases hc : (check n L).1 = 0
      · rw [hc, key h1 hc]
      · by_cases hc2 : (check n (turned L)).1 = 0
        · have := key (by rw [turned_len]; exact h1) hc2
          rw [turn_turn] at this
          exact absurd this hc
        · rw [check_one hc h0 h1, check_one hc2 h0 (by rw [turned_len]; exact h1)]

/-- the bounds, the other way round -/
theorem bt_turn {n : Nat} {L : List Lk} {drop : List Bool} {u v : Nat} (hu : u < n) (hv : v < n) {s s' : List Int} (h : BT n L drop v s) (h' : BT n (turned L) drop u s') : s'.getD v 0 = s.getD u 0 := by
  have g1 : s.getD u 0 ≠ free → s'.getD v 0 ≤ s.getD u 0 ∧ s'.getD v 0 ≠ free := fun hf => by
    obtain ⟨l, _, hl⟩ := h.at' u hu hf
    have := h'.up (way_turn hl)
    exact this
  have g2 : s'.getD v 0 ≠ free → s.getD u 0 ≤ s'.getD v 0 ∧ s.getD u 0 ≠ free := fun hf => by
    obtain ⟨l, _, hl⟩ := h'.at' v hv hf
    have := way_turn hl
    rw [turn_turn] at this
    exact h.up this
  by_cases hf : s.getD u 0 = free
  · by_cases hg : s'.getD v 0 = free
    · rw [hf, hg]
    · exact absurd hf (g2 hg).2
  · have a := g1 hf
    have b := g2 a.2
    omega

/-- fuel that is enough, whatever is left out, for a system and the one turned round -/
structure ET (n : Int) (L : List Lk) (k : Nat) : Prop where
  e1 : (check n L).1 = 0 → ∀ drop, enough n.toNat L drop k = true ∧ (cons n.toNat L drop k = true ↔ ∃ σ, Sol L drop σ)
  e2 : (check n L).1 = 0 → ∀ drop, enough n.toNat (turned L) drop k = true ∧ (cons n.toNat (turned L) drop k = true ↔ ∃ σ, Sol (turned L) drop σ)
theorem et_ex (n : Int) (L : List Lk) : ∃ k, ET n L k := by
  by_cases hc : (check n L).1 = 0
  · obtain ⟨n1, n2, _, hok⟩ := check_ok hc
    have hN : ((n.toNat : Nat) : Int) = n := by omega
    obtain ⟨K, hK⟩ := enough_ex (n := n.toNat) (by omega) (by omega) (L := L) (by rw [hN]; exact hok)
    obtain ⟨J, hJ⟩ := enough_ex (n := n.toNat) (by omega) (by omega) (L := turned L) (by rw [hN]; exact ok_turn hok)
    exact ⟨K + J, fun _ drop => hK _ drop (by omega), fun _ drop => hJ _ drop (by omega)⟩
  · exact ⟨0, fun h => absurd h hc, fun h => absurd h hc⟩
theorem ET.en {n : Int} {L : List Lk} {k : Nat} (h : ET n L k) : EN n L k := ⟨fun hc => (h.e1 hc []).1, fun hc => (h.e1 hc []).2⟩
theorem ET.en2 {n : Int} {L : List Lk} {k : Nat} (h : ET n L k) : EN n (turned L) k := ⟨fun hc => (h.e2 (by rw [← check_turn]; exact hc) []).1, fun hc => (h.e2 (by rw [← check_turn]; exact hc) []).2⟩
theorem ET.cons {n : Int} {L : List Lk} {k : Nat} (h : ET n L k) (hc : (check n L).1 = 0) (drop : List Bool) : Ch.cons n.toNat (turned L) drop k = Ch.cons n.toNat L drop k := by
  obtain ⟨n1, n2, _, hok⟩ := check_ok hc
  have hN : ((n.toNat : Nat) : Int) = n := by omega
  have : Ch.cons n.toNat (turned L) drop k = true ↔ Ch.cons n.toNat L drop k = true := by
    rw [(h.e1 hc drop).2, (h.e2 hc drop).2]
    constructor
    · rintro ⟨σ, hs⟩
      have := sol_turn (n := n.toNat) (by rw [hN]; exact ok_turn hok) hs
      rw [turn_turn] at this
      exact ⟨_, this⟩
    · rintro ⟨σ, hs⟩
      exact ⟨_, sol_turn (n := n.toNat) (by rw [hN]; exact hok) hs⟩
  cases h1 : Ch.cons n.toNat (turned L) drop k <;> cases h2 : Ch.cons n.toNat L drop k <;> simp_all
theorem ET.openE {n : Int} {L : List Lk} {k : Nat} (h : ET n L k) (l l' : List Int) (hl : l.all (fun i => isIx i n) = l'.all (fun i => isIx i n)) : opn n (turned L) l' k = opn n L l k := by
  unfold opn Ch.openE
  rw [check_turn, hl]
  by_cases hc : (check n L).1 = 0
  · rw [h.cons hc []]
  · rw [if_pos hc, if_pos hc]
theorem ET.bt {n : Int} {L : List Lk} {k : Nat} (h : ET n L k) (hc : (check n L).1 = 0) {drop : List Bool} (hk : Ch.cons n.toNat L drop k = true) {u v : Nat} (hu : u < n.toNat) (hv : v < n.toNat) : (Ch.bt n.toNat (turned L) drop k u).getD v 0 = (Ch.bt n.toNat L drop k v).getD u 0 := by
  obtain ⟨n1, n2, _, hok⟩ := check_ok hc
  have hN : ((n.toNat : Nat) : Int) = n := by omega
  obtain ⟨b1, _, _⟩ := enough_bt (h.e1 hc drop).1 hk hv
  obtain ⟨b2, _, _⟩ := enough_bt (h.e2 hc drop).1 (by rw [h.cons hc drop]; exact hk) hu
  exact bt_turn hu hv (bt_spec (by omega) (by omega) (by rw [hN]; exact hok) hv b1 ((h.e1 hc drop).2.1 hk)) (bt_spec (by omega) (by omega) (by rw [hN]; exact ok_turn hok) hu b2 ((h.e2 hc drop).2.1 (by rw [h.cons hc drop]; exact hk)))
theorem ET.bound {n : Int} {L : List Lk} {k : Nat} (h : ET n L k) (u v : Int) : Ch.bound n (turned L) k v u = Ch.bound n L k u v := by
  have ho : Ch.opn n (turned L) [v, u] k = Ch.opn n L [u, v] k := h.openE [u, v] [v, u] (by simp [Bool.and_comm])
  unfold Ch.bound
  rw [ho]
  by_cases h1 : Ch.opn n L [u, v] k = 0
  · obtain ⟨c1, c2, c3⟩ := opn_ok h1
    simp [isIx] at c2
    rw [h.bt c1 c3 (u := u.toNat) (v := v.toNat) (by omega) (by omega)]
  · rw [if_pos h1, if_pos h1]
theorem ET.clash {n : Int} {L : List Lk} {k : Nat} (h : ET n L k) : ∃ c d er, clashE n L k = some (c, er) ∧ clashE n (turned L) k = some (d, er) ∧ c.length = d.length := by
  by_cases hc : (check n L).1 = 0
  · have hc2 : (check n (turned L)).1 = 0 := by rw [check_turn]; exact hc
    have hkk := h.cons hc []
    cases hk : Ch.cons n.toNat L [] k
    · rw [hk] at hkk
      obtain ⟨n1, n2, _, hok⟩ := check_ok hc
      have hN : ((n.toNat : Nat) : Int) = n := by omega
      have no1 : ¬ ∃ σ, Sol L [] σ := fun hs => by
        have := (h.e1 hc []).2.2 hs
        rw [hk] at this; cases this
      have no2 : ¬ ∃ σ, Sol (turned L) [] σ := fun hs => by
        have := (h.e2 hc []).2.2 hs
        rw [hkk] at this; cases this
      obtain ⟨c, a1, ⟨x, w, a2, a3⟩, _, _, a6⟩ := clash_ex (n := n.toNat) (by omega) (by rw [hN]; exact hok) no1
      obtain ⟨d, b1, ⟨y, z, b2, b3⟩, _, _, b6⟩ := clash_ex (n := n.toNat) (by omega) (by rw [hN]; exact ok_turn hok) no2
      have g1 := b6 _ x w (way_turn a2) a3
      have b2' := way_turn b2
      rw [turn_turn] at b2'
      have g2 := a6 _ y z b2' b3
      rw [List.length_reverse] at g1 g2
      refine ⟨c, d, 0, ?_, ?_, by omega⟩
      · unfold clashE; rw [if_neg (by omega), hk, a1]; rfl
      · unfold clashE; rw [if_neg (by omega), hkk, b1]; rfl
    · rw [hk] at hkk
      refine ⟨[], [], 5, ?_, ?_, rfl⟩
      · unfold clashE; rw [if_neg (by omega), if_pos hk]
      · unfold clashE; rw [if_neg (by omega), if_pos hkk]
  · refine ⟨[], [], (check n L).1, ?_, ?_, rfl⟩
    · unfold clashE; rw [if_pos hc]
    · unfold clashE; rw [if_pos (by rw [check_turn]; exact hc), check_turn]

theorem twin_turn {D : List Bool} {q : Nat} {lq : Lk} : ∀ {L : List Lk} {k : Nat}, twin D q ⟨lq.t, lq.f, lq.m⟩ (turned L) k = twin D q lq L k
  | [], _ => rfl
  | l :: r, k => by
    have ih := twin_turn (D := D) (q := q) (lq := lq) (L := r) (k := k + 1)
    have e : turned (l :: r) = ⟨l.t, l.f, l.m⟩ :: turned r := rfl
    rw [e, twin, twin, ih]
    have : sameLk ⟨l.t, l.f, l.m⟩ ⟨lq.t, lq.f, lq.m⟩ = sameLk l lq := by
      unfold sameLk
      simp only
      rw [Bool.and_comm (l.t == lq.t) (l.f == lq.f)]
    rw [this]
theorem sol_drop {L : List Lk} {drop : List Bool} {σ : Nat → Int} (hs : Sol L [] σ) : Sol L drop σ := fun v l hl => by
  obtain ⟨i, hi, _, rfl, ht⟩ := mem_links_inv hl
  have h1 := mem_links (L := L) (drop := []) hi rfl (by rw [ht]; omega)
  rw [ht] at h1
  exact hs v _ h1
theorem ET.drop {n : Int} {L : List Lk} {k : Nat} (h : ET n L k) (ho : Ch.opn n L [] k = 0) (drop : List Bool) : (enough n.toNat L drop k = true ∧ Ch.cons n.toNat L drop k = true) ∧ (enough n.toNat (turned L) drop k = true ∧ Ch.cons n.toNat (turned L) drop k = true) := by
  obtain ⟨hc, _, hk⟩ := opn_ok ho
  obtain ⟨σ, hs⟩ := (h.e1 hc []).2.1 hk
  have h1 : Ch.cons n.toNat L drop k = true := (h.e1 hc _).2.2 ⟨σ, sol_drop hs⟩
  exact ⟨⟨(h.e1 hc drop).1, h1⟩, (h.e2 hc drop).1, by rw [h.cons hc drop]; exact h1⟩
theorem ET.spares {n : Int} {L : List Lk} {k : Nat} (h : ET n L k) (ho : Ch.opn n L [] k = 0) {q : Nat} (hq : q < L.length) : Ch.spares n.toNat (turned L) (none' L.length) k q = Ch.spares n.toNat L (none' L.length) k q := by
  obtain ⟨hc, _, hk⟩ := opn_ok ho
  obtain ⟨n1, n2, _, hok⟩ := check_ok hc
  obtain ⟨f0, f1, t0, t1, _⟩ := okLk_spec (hok q hq)
  have hk2 : Ch.cons n.toNat L ((none' L.length).set q true) k = true := by
    obtain ⟨σ, hs⟩ := (h.e1 hc []).2.1 hk
    refine (h.e1 hc _).2.2 ⟨σ, fun v l hl => ?_⟩
    obtain ⟨i, hi, _, rfl, ht⟩ := mem_links_inv hl
    have h1 := mem_links (L := L) (drop := []) hi rfl (by rw [ht]; omega)
    rw [ht] at h1
    exact hs v _ h1
  unfold Ch.spares
  rw [turn_at hq]
  simp only
  rw [twin_turn, h.bt hc hk2 (u := (L.getD q noLk).f.toNat) (v := (L.getD q noLk).t.toNat) (by omega) (by omega)]
theorem ET.idle {n : Int} {L : List Lk} {k : Nat} (h : ET n L k) (ho : Ch.opn n L [] k = 0) : ∀ j, j ≤ L.length → Ch.idleK n.toNat (turned L) k j = Ch.idleK n.toNat L k j
  | 0, _ => rfl
  | j + 1, hj => by
    have ih := h.idle ho j (by omega)
    have e := h.spares ho (q := j) (by omega)
    rw [← turned_len L] at e
    cases hs : Ch.spares n.toNat L (none' L.length) k j
    · rw [idleK_miss hs, idleK_miss (by rw [e, turned_len]; exact hs), ih]
    · rw [idleK_hit hs, idleK_hit (by rw [e, turned_len]; exact hs), ih]

/-- whereBound -/
def whereB (x : List Int) (z : Int) (e : Int) : List Int × Int := if e ≠ 0 then ([], e) else if x.any (fun y => y == z) then ([], 5) else (x, 0)
theorem where_neg {x : List Int} {z e : Int} : (whereB (x.map fun y => -y) z e).2 = (whereB x (-z) e).2 ∧ (whereB (x.map fun y => -y) z e).1 = (whereB x (-z) e).1.map fun y => -y := by
  have h : (x.map fun y => -y).any (fun y => y == z) = x.any (fun y => y == -z) := by
    rw [List.any_map]
    congr 1
    funext y
    simp only [Function.comp]
    rw [Bool.eq_iff_iff, beq_iff_eq, beq_iff_eq]
    omega
  unfold whereB
  rw [h]
  split
  · exact ⟨rfl, rfl⟩
  · split <;> exact ⟨rfl, rfl⟩
/-- Greatest, Least -/
def greatW (n : Int) (L : List Lk) (k : Nat) : List Int × Int := whereB (greatest n L k) free (greatE n L k)
def leastW (n : Int) (L : List Lk) (k : Nat) : List Int × Int := whereB (least n L k) (-free) (opn n L [] k)
theorem great_least {n : Int} {L : List Lk} {k : Nat} : (greatW n L k).2 = (leastW n (turned L) k).2 ∧ (greatW n L k).1 = (leastW n (turned L) k).1.map fun y => -y := by
  have e : greatE n L k = opn n (turned L) [] k := by
    unfold greatE
    by_cases hc : (check n L).1 = 0
    · rw [if_neg (by omega)]
    · rw [if_pos hc]
      unfold opn openE
      rw [check_turn, if_pos hc]
  unfold greatW leastW greatest
  rw [e]
  exact where_neg
end Ch
