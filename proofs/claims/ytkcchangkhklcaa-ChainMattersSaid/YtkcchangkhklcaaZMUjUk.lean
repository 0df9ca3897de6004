/- Several texts one behind the other. -/
import Derived.Test.YtkcchangkhklcaaZMUgUi
set_option linter.unusedSimpArgs false
set_option linter.unusedVariables false
/- Package chain, mirrored: two systems whose links are the same, in whatever order. -/
namespace Ch

/-- each link of the one is one of the other -/
def Sub (L M : List Lk) : Prop := ∀ i, i < L.length → ∃ j, j < M.length ∧ M.getD j noLk = L.getD i noLk
theorem way_sub {L M : List Lk} (h : Sub L M) : ∀ {l : List Nat} {u v w : Int}, way L [] u l v w → ∃ r, way M [] u r v w ∧ r.length = l.length
  | [], u, v, w, hw => ⟨[], hw, rfl⟩
  | i :: l, u, v, w, hw => by
    obtain ⟨h0, _, hf, ht⟩ := hw
    obtain ⟨j, hj, e⟩ := h i h0
    obtain ⟨r, hr, hl⟩ := way_sub h ht
    refine ⟨j :: r, ⟨hj, rfl, by rw [e]; exact hf, by rw [e]; exact hr⟩, by simp [hl]⟩
theorem sol_sub {L M : List Lk} (h : Sub L M) {σ : Nat → Int} (hs : Sol M [] σ) : Sol L [] σ := fun v l hl => by
  obtain ⟨i, hi, _, rfl, ht⟩ := mem_links_inv hl
  obtain ⟨j, hj, e⟩ := h i hi
  have h1 := mem_links (L := M) (drop := []) hj rfl (by rw [e, ht]; omega)
  rw [e, ht] at h1
  exact hs v _ h1
theorem check_one {n : Int} {L : List Lk} (h : (check n L).1 ≠ 0) (h0 : ¬ (n < 1 ∨ 60 < n)) (h1 : ¬ 300 < L.length) : (check n L).1 = 1 := by
  rw [check_mid (by omega) (by omega) h1] at h ⊢
  cases hb : bad n L 0 with
  | none => rw [hb] at h; exact absurd rfl h
  | some k => rfl
theorem check_sub {n : Int} {L M : List Lk} (h : Sub L M) (h2 : Sub M L) (hl : L.length = M.length) : (check n L).1 = (check n M).1 := by
  by_cases h0 : n < 1 ∨ 60 < n
  · rw [check_n h0, check_n h0]
  · by_cases h1 : 300 < L.length
    · rw [check_l h0 h1, check_l h0 (by omega)]
    · have key : ∀ {A B : List Lk}, Sub B A → ¬ 300 < B.length → (check n A).1 = 0 → (check n B).1 = 0 := fun {A B} hs hb hc => by
        obtain ⟨_, _, _, hok⟩ := check_ok hc
        refine check_of (by omega) (by omega) (by omega) fun l hl => ?_
        obtain ⟨k, hk, rfl⟩ := lk_mem hl
        obtain ⟨j, hj, e⟩ := hs k hk
        rw [← e]; exact hok j hj
      by_cases hc : (check n L).1 = 0
      · rw [hc, key h2 (by omega) hc]
      · by_cases hc2 : (check n M).1 = 0
        · exact absurd (key h h1 hc2) hc
        · rw [check_one hc h0 h1, check_one hc2 h0 (by omega)]

structure Same (n : Int) (L M : List Lk) (k k2 : Nat) : Prop where
  e1 : EN n L k
  e2 : EN n M k2
  s1 : Sub L M
  s2 : Sub M L
  len : L.length = M.length
theorem Same.cons {n : Int} {L M : List Lk} {k k2 : Nat} (h : Same n L M k k2) (hc : (check n L).1 = 0) : Ch.cons n.toNat L [] k = Ch.cons n.toNat M [] k2 := by
  have hc2 : (check n M).1 = 0 := by rw [← check_sub h.s1 h.s2 h.len]; exact hc
  have a := h.e1.sol hc
  have b := h.e2.sol hc2
  have : Ch.cons n.toNat L [] k = true ↔ Ch.cons n.toNat M [] k2 = true := by
    rw [a, b]
    exact ⟨fun ⟨σ, hs⟩ => ⟨σ, sol_sub h.s2 hs⟩, fun ⟨σ, hs⟩ => ⟨σ, sol_sub h.s1 hs⟩⟩
  cases h1 : Ch.cons n.toNat L [] k <;> cases h2 : Ch.cons n.toNat M [] k2 <;> simp_all
theorem Same.opn {n : Int} {L M : List Lk} {k k2 : Nat} (h : Same n L M k k2) : opn n L [] k = opn n M [] k2 := by
  have e := check_sub (n := n) h.s1 h.s2 h.len
  by_cases hc : (check n L).1 = 0
  · rw [opn_nil hc, opn_nil (by rw [← e]; exact hc), h.cons hc]
  · unfold Ch.opn openE
    rw [if_pos hc, if_pos (by rw [← e]; exact hc), e]
theorem Same.tb {n : Int} {L M : List Lk} {k k2 : Nat} (h : Same n L M k k2) (ho : Ch.opn n L [] k = 0) {u v : Nat} (hu : u < n.toNat) (hv : v < n.toNat) : tb n L k u v = tb n M k2 u v := by
  obtain ⟨_, _, hD⟩ := tb_of h.e1 ho
  obtain ⟨_, _, hE⟩ := tb_of h.e2 (by rw [← h.opn]; exact ho)
  have g1 : Ch.tb n L k u v ≠ free → Ch.tb n M k2 u v ≤ Ch.tb n L k u v ∧ Ch.tb n M k2 u v ≠ free := fun hf => by
    obtain ⟨l, hl⟩ := hD.way hu hv hf
    obtain ⟨r, hr, _⟩ := way_sub h.s1 hl
    exact hE.up hu hv hr
  have g2 : Ch.tb n M k2 u v ≠ free → Ch.tb n L k u v ≤ Ch.tb n M k2 u v ∧ Ch.tb n L k u v ≠ free := fun hf => by
    obtain ⟨l, hl⟩ := hE.way hu hv hf
    obtain ⟨r, hr, _⟩ := way_sub h.s2 hl
    exact hD.up hu hv hr
  by_cases hf : Ch.tb n L k u v = free
  · by_cases hg : Ch.tb n M k2 u v = free
    · rw [hf, hg]
    · exact absurd hf (g2 hg).2
  · have a := g1 hf
    have b := g2 a.2
    omega
theorem Same.clash {n : Int} {L M : List Lk} {k k2 : Nat} (h : Same n L M k k2) : ∃ c d er, clashE n L k = some (c, er) ∧ clashE n M k2 = some (d, er) ∧ c.length = d.length := by
  have e := check_sub (n := n) h.s1 h.s2 h.len
  by_cases hc : (check n L).1 = 0
  · have hc2 : (check n M).1 = 0 := by rw [← e]; exact hc
    cases hk : Ch.cons n.toNat L [] k
    · have hk2 : Ch.cons n.toNat M [] k2 = false := by rw [← h.cons hc]; exact hk
      obtain ⟨n1, n2, _, hok⟩ := check_ok hc
      obtain ⟨_, _, _, hok2⟩ := check_ok hc2
      have hN : ((n.toNat : Nat) : Int) = n := by omega
      have no1 : ¬ ∃ σ, Sol L [] σ := fun hs => by
        have := (h.e1.sol hc).2 hs
        rw [hk] at this; cases this
      have no2 : ¬ ∃ σ, Sol M [] σ := fun hs => by
        have := (h.e2.sol hc2).2 hs
        rw [hk2] at this; cases this
      obtain ⟨c, a1, ⟨x, w, a2, a3⟩, _, _, a6⟩ := clash_ex (n := n.toNat) (by omega) (by rw [hN]; exact hok) no1
      obtain ⟨d, b1, ⟨y, z, b2, b3⟩, _, _, b6⟩ := clash_ex (n := n.toNat) (by omega) (by rw [hN]; exact hok2) no2
      obtain ⟨r, r1, r2⟩ := way_sub h.s1 a2
      obtain ⟨q, q1, q2⟩ := way_sub h.s2 b2
      have g1 := b6 r x w r1 a3
      have g2 := a6 q y z q1 b3
      refine ⟨c, d, 0, ?_, ?_, by omega⟩
      · unfold clashE; rw [if_neg (by omega), hk, a1]; rfl
      · unfold clashE; rw [if_neg (by omega), hk2, b1]; rfl
    · have hk2 : Ch.cons n.toNat M [] k2 = true := by rw [← h.cons hc]; exact hk
      refine ⟨[], [], 5, ?_, ?_, rfl⟩
      · unfold clashE; rw [if_neg (by omega), if_pos hk]
      · unfold clashE; rw [if_neg (by omega), if_pos hk2]
  · refine ⟨[], [], (check n L).1, ?_, ?_, rfl⟩
    · unfold clashE; rw [if_pos hc]
    · unfold clashE; rw [if_pos (by rw [← e]; exact hc), e]

/-- the links from the t-th on, round: the first j of them -/
def rot (L : List Lk) (t j : Nat) : List Lk := (List.range j).map fun i => L.getD ((i + t) % L.length) noLk
theorem rot_next {L : List Lk} {t j : Nat} : rot L t (j + 1) = rot L t j ++ [L.getD ((j + t) % L.length) noLk] := by
  unfold rot
  rw [List.range_succ, List.map_append]
  rfl
theorem rot_len (L : List Lk) (t j : Nat) : (rot L t j).length = j := by simp [rot]
theorem rot_at {L : List Lk} {t j i : Nat} (h : i < j) : (rot L t j).getD i noLk = L.getD ((i + t) % L.length) noLk := by
  unfold rot
  rw [List.getD, List.getElem?_map, List.getElem?_range h]; rfl
theorem rot_sub {L : List Lk} {t : Nat} : Sub (rot L t L.length) L := fun i hi => by
  rw [rot_len] at hi
  exact ⟨(i + t) % L.length, Nat.mod_lt _ (by omega), by rw [rot_at hi]⟩
theorem sub_rot {L : List Lk} {t : Nat} : Sub L (rot L t L.length) := fun i hi => by
  have h0 : 0 < L.length := by omega
  have ht := Nat.mod_lt t h0
  refine ⟨(i + (L.length - t % L.length)) % L.length, by rw [rot_len]; exact Nat.mod_lt _ h0, ?_⟩
  rw [rot_at (Nat.mod_lt _ h0)]
  congr 1
  have e : i + (L.length - t % L.length) + t = i + L.length * (t / L.length + 1) := by
    have := Nat.div_add_mod t L.length
    rw [Nat.mul_add, Nat.mul_one]
    omega
  rw [Nat.mod_add_mod, e, Nat.add_mul_mod_self_left, Nat.mod_eq_of_lt hi]
end Ch

/- Package chain, mirrored: a system with all links turned round. -/
namespace Ch

theorem turn_at {L : List Lk} {i : Nat} (h : i < L.length) : (turned L).getD i noLk = ⟨(L.getD i noLk).t, (L.getD i noLk).f, (L.getD i noLk).m⟩ := by
  unfold turned
  rw [List.getD, List.getD, List.getElem?_map, List.getElem?_eq_getElem h]; rfl
theorem way_snoc {L : List Lk} {drop : List Bool} {i : Nat} {l : List Nat} {u w : Int} (hi : i < L.length) (hd : drop.getD i false = false) (h : way L drop u l (L.getD i noLk).f w) : way L drop u (l ++ [i]) (L.getD i noLk).t (w + (L.getD i noLk).m) :=
  way_append h (way_one hi hd)
theorem way_turn {L : List Lk} {drop : List Bool} : ∀ {l : List Nat} {u v w : Int}, way L drop u l v w → way (turned L) drop v l.reverse u w
  | [], u, v, w, h => ⟨h.1.symm, h.2⟩
  | i :: r, u, v, w, h => by
    obtain ⟨h0, hd, hf, ht⟩ := h
    have ih := way_turn ht
    have h1 : i < (turned L).length := by rw [turned_len]; exact h0
    have e := turn_at h0
    have h2 := way_snoc (L := turned L) h1 hd (l := r.reverse) (u := v) (w := w - (L.getD i noLk).m) (by rw [e]; exact ih)
    rw [e] at h2
    simp only at h2
    rw [hf, show w - (L.getD i noLk).m + (L.getD i noLk).m = w by omega] at h2
    rw [List.reverse_cons]
    exact h2
theorem turn_turn (L : List Lk) : turned (turned L) = L := by
  unfold turned
  rw [List.map_map]
  have : ((fun l : Lk => (⟨l.t, l.f, l.m⟩ : Lk)) ∘ fun l : Lk => ⟨l.t, l.f, l.m⟩) = id := by funext l; rfl
  rw [this, List.map_id]
theorem ok_turn {n : Int} {L : List Lk} (h : ∀ j, j < L.length → okLk n (L.getD j noLk) = true) : ∀ j, j < (turned L).length → okLk n ((turned L).getD j noLk) = true := fun j hj => by
  rw [turned_len] at hj
  rw [turn_at hj]
  have := okLk_spec (h j hj)
  generalize L.getD j noLk = x at this ⊢
  unfold okLk isIx top
  simp
  omega
theorem sol_turn {n : Nat} {L : List Lk} {drop : List Bool} {σ : Nat → Int} (hok : ∀ j, j < L.length → okLk n (L.getD j noLk) = true) (h : Sol L drop σ) : Sol (turned L) drop fun i => -(σ i) := fun v l hl => by
  obtain ⟨i, hi, hd, rfl, ht⟩ := mem_links_inv hl
  rw [turned_len] at hi
  rw [turn_at hi] at ht ⊢
  simp only at ht ⊢
  have h1 := h _ _ (mem_links hi hd (okLk_spec (hok i hi)).2.2.1)
  rw [ht, show ((v : Int)).toNat = v from rfl] at h1
  omega
theorem check_turn {n : Int} {L : List Lk} : (check n (turned L)).1 = (check n L).1 := by
  by_cases h0 : n < 1 ∨ 60 < n
  · rw [check_n h0, check_n h0]
  · by_cases h1 : 300 < L.length
    · rw [check_l h0 h1, check_l h0 (by rw [turned_len]; exact h1)]
    · have key : ∀ {A : List Lk}, ¬ 300 < A.length → (check n A).1 = 0 → (check n (turned A)).1 = 0 := fun {A} hb hc => by
        obtain ⟨_, _, _, hok⟩ := check_ok hc
        refine check_of (by omega) (by omega) (by rw [turned_len]; omega) fun l hl => ?_
        obtain ⟨k, hk, rfl⟩ := lk_mem hl
        exact ok_turn hok k hk
      by_cases hc : (check n L).1 = 0
      · rw [hc, key h1 hc]
      · by_cases hc2 : (check n (turned L)).1 = 0
        · have := key (by rw [turned_len]; exact h1) hc2
          rw [turn_turn] at this
          exact absurd this hc
        · rw [check_one hc h0 h1, check_one hc2 h0 (by rw [turned_len]; exact h1)]

/-- the bounds, the other way round -/
theorem bt_turn {n : Nat} {L : List Lk} {drop : List Bool} {u v : Nat} (hu : u < n) (hv : v < n) {s s' : List Int} (h : BT n L drop v s) (h' : BT n (turned L) drop u s') : s'.getD v 0 = s.getD u 0 := by
  have g1 : s.getD u 0 ≠ free → s'.getD v 0 ≤ s.getD u 0 ∧ s'.getD v 0 ≠ free := fun hf => by
    obtain ⟨l, _, hl⟩ := h.at' u hu hf
    have := h'.up (way_turn hl)
    exact this
  have g2 : s'.getD v 0 ≠ free → s.getD u 0 ≤ s'.getD v 0 ∧ s.getD u 0 ≠ free := fun hf => by
    obtain ⟨l, _, hl⟩ := h'.at' v hv hf
    have := way_turn hl
    rw [turn_turn] at this
    exact h.up this
  by_cases hf : s.getD u 0 = free
  · by_cases hg : s'.getD v 0 = free
    · rw [hf, hg]
    · exact absurd hf (g2 hg).2
  · have a := g1 hf
    have b := g2 a.2
    omega

/-- fuel that is enough, whatever is left out, for a system and the one turned round -/
structure ET (n : Int) (L : List Lk) (k : Nat) : Prop where
  e1 : (check n L).1 = 0 → ∀ drop, enough n.toNat L drop k = true ∧ (cons n.toNat L drop k = true ↔ ∃ σ, Sol L drop σ)
  e2 : (check n L).1 = 0 → ∀ drop, enough n.toNat (turned L) drop k = true ∧ (cons n.toNat (turned L) drop k = true ↔ ∃ σ, Sol (turned L) drop σ)
theorem et_ex (n : Int) (L : List Lk) : ∃ k, ET n L k := by
  by_cases hc : (check n L).1 = 0
  · obtain ⟨n1, n2, _, hok⟩ := check_ok hc
    have hN : ((n.toNat : Nat) : Int) = n := by omega
    obtain ⟨K, hK⟩ := enough_ex (n := n.toNat) (by omega) (by omega) (L := L) (by rw [hN]; exact hok)
    obtain ⟨J, hJ⟩ := enough_ex (n := n.toNat) (by omega) (by omega) (L := turned L) (by rw [hN]; exact ok_turn hok)
    exact ⟨K + J, fun _ drop => hK _ drop (by omega), fun _ drop => hJ _ drop (by omega)⟩
  · exact ⟨0, fun h => absurd h hc, fun h => absurd h hc⟩
theorem ET.en {n : Int} {L : List Lk} {k : Nat} (h : ET n L k) : EN n L k := ⟨fun hc => (h.e1 hc []).1, fun hc => (h.e1 hc []).2⟩
theorem ET.en2 {n : Int} {L : List Lk} {k : Nat} (h : ET n L k) : EN n (turned L) k := ⟨fun hc => (h.e2 (by rw [← check_turn]; exact hc) []).1, fun hc => (h.e2 (by rw [← check_turn]; exact hc) []).2⟩
theorem ET.cons {n : Int} {L : List Lk} {k : Nat} (h : ET n L k) (hc : (check n L).1 = 0) (drop : List Bool) : Ch.cons n.toNat (turned L) drop k = Ch.cons n.toNat L drop k := by
  obtain ⟨n1, n2, _, hok⟩ := check_ok hc
  have hN : ((n.toNat : Nat) : Int) = n := by omega
  have : Ch.cons n.toNat (turned L) drop k = true ↔ Ch.cons n.toNat L drop k = true := by
    rw [(h.e1 hc drop).2, (h.e2 hc drop).2]
    constructor
    · rintro ⟨σ, hs⟩
      have := sol_turn (n := n.toNat) (by rw [hN]; exact ok_turn hok) hs
      rw [turn_turn] at this
      exact ⟨_, this⟩
    · rintro ⟨σ, hs⟩
      exact ⟨_, sol_turn (n := n.toNat) (by rw [hN]; exact hok) hs⟩
  cases h1 : Ch.cons n.toNat (turned L) drop k <;> cases h2 : Ch.cons n.toNat L drop k <;> simp_all
theorem ET.openE {n : Int} {L : List Lk} {k : Nat} (h : ET n L k) (l l' : List Int) (hl : l.all (fun i => isIx i n) = l'.all (fun i => isIx i n)) : opn n (turned L) l' k = opn n L l k := by
  unfold opn Ch.openE
  rw [check_turn, hl]
  by_cases hc : (check n L).1 = 0
  · rw [h.cons hc []]
  · rw [if_pos hc, if_pos hc]
theorem ET.bt {n : Int} {L : List Lk} {k : Nat} (h : ET n L k) (hc : (check n L).1 = 0) {drop : List Bool} (hk : Ch.cons n.toNat L drop k = true) {u v : Nat} (hu : u < n.toNat) (hv : v < n.toNat) : (Ch.bt n.toNat (turned L) drop k u).getD v 0 = (Ch.bt n.toNat L drop k v).getD u 0 := by
  obtain ⟨n1, n2, _, hok⟩ := check_ok hc
  have hN : ((n.toNat : Nat) : Int) = n := by omega
  obtain ⟨b1, _, _⟩ := enough_bt (h.e1 hc drop).1 hk hv
  obtain ⟨b2, _, _⟩ := enough_bt (h.e2 hc drop).1 (by rw [h.cons hc drop]; exact hk) hu
  exact bt_turn hu hv (bt_spec (by omega) (by omega) (by rw [hN]; exact hok) hv b1 ((h.e1 hc drop).2.1 hk)) (bt_spec (by omega) (by omega) (by rw [hN]; exact ok_turn hok) hu b2 ((h.e2 hc drop).2.1 (by rw [h.cons hc drop]; exact hk)))
theorem ET.bound {n : Int} {L : List Lk} {k : Nat} (h : ET n L k) (u v : Int) : Ch.bound n (turned L) k v u = Ch.bound n L k u v := by
  have ho : Ch.opn n (turned L) [v, u] k = Ch.opn n L [u, v] k := h.openE [u, v] [v, u] (by simp [Bool.and_comm])
  unfold Ch.bound
  rw [ho]
  by_cases h1 : Ch.opn n L [u, v] k = 0
  · obtain ⟨c1, c2, c3⟩ := opn_ok h1
    simp [isIx] at c2
    rw [h.bt c1 c3 (u := u.toNat) (v := v.toNat) (by omega) (by omega)]
  · rw [if_pos h1, if_pos h1]
theorem ET.clash {n : Int} {L : List Lk} {k : Nat} (h : ET n L k) : ∃ c d er, clashE n L k = some (c, er) ∧ clashE n (turned L) k = some (d, er) ∧ c.length = d.length := by
  by_cases hc : (check n L).1 = 0
  · have hc2 : (check n (turned L)).1 = 0 := by rw [check_turn]; exact hc
    have hkk := h.cons hc []
    cases hk : Ch.cons n.toNat L [] k
    · rw [hk] at hkk
      obtain ⟨n1, n2, _, hok⟩ := check_ok hc
      have hN : ((n.toNat : Nat) : Int) = n := by omega
      have no1 : ¬ ∃ σ, Sol L [] σ := fun hs => by
        have := (h.e1 hc []).2.2 hs
        rw [hk] at this; cases this
      have no2 : ¬ ∃ σ, Sol (turned L) [] σ := fun hs => by
        have := (h.e2 hc []).2.2 hs
        rw [hkk] at this; cases this
      obtain ⟨c, a1, ⟨x, w, a2, a3⟩, _, _, a6⟩ := clash_ex (n := n.toNat) (by omega) (by rw [hN]; exact hok) no1
      obtain ⟨d, b1, ⟨y, z, b2, b3⟩, _, _, b6⟩ := clash_ex (n := n.toNat) (by omega) (by rw [hN]; exact ok_turn hok) no2
      have g1 := b6 _ x w (way_turn a2) a3
      have b2' := way_turn b2
      rw [turn_turn] at b2'
      have g2 := a6 _ y z b2' b3
      rw [List.length_reverse] at g1 g2
      refine ⟨c, d, 0, ?_, ?_, by omega⟩
      · unfold clashE; rw [if_neg (by omega), hk, a1]; rfl
      · unfold clashE; rw [if_neg (by omega), hkk, b1]; rfl
    · rw [hk] at hkk
      refine ⟨[], [], 5, ?_, ?_, rfl⟩
      · unfold clashE; rw [if_neg (by omega), if_pos hk]
      · unfold clashE; rw [if_neg (by omega), if_pos hkk]
  · refine ⟨[], [], (check n L).1, ?_, ?_, rfl⟩
    · unfold clashE; rw [if_pos hc]
    · unfold clashE; rw [if_pos (by rw [check_turn]; exact hc), check_turn]

theorem twin_turn {D : List Bool} {q : Nat} {lq : Lk} : ∀ {L : List Lk} {k : Nat}, twin D q ⟨lq.t, lq.f, lq.m⟩ (turned L) k = twin D q lq L k
  | [], _ => rfl
  | l :: r, k => by
    have ih := twin_turn (D := D) (q := q) (lq := lq) (L := r) (k := k + 1)
    have e : turned (l :: r) = ⟨l.t, l.f, l.m⟩ :: turned r := rfl
    rw [e, twin, twin, ih]
    have : sameLk ⟨l.t, l.f, l.m⟩ ⟨lq.t, lq.f, lq.m⟩ = sameLk l lq := by
      unfold sameLk
      simp only
      rw [Bool.and_comm (l.t == lq.t) (l.f == lq.f)]
    rw [this]
theorem sol_drop {L : List Lk} {drop : List Bool} {σ : Nat → Int} (hs : Sol L [] σ) : Sol L drop σ := fun v l hl => by
  obtain ⟨i, hi, _, rfl, ht⟩ := mem_links_inv hl
  have h1 := mem_links (L := L) (drop := []) hi rfl (by rw [ht]; omega)
  rw [ht] at h1
  exact hs v _ h1
theorem ET.drop {n : Int} {L : List Lk} {k : Nat} (h : ET n L k) (ho : Ch.opn n L [] k = 0) (drop : List Bool) : (enough n.toNat L drop k = true ∧ Ch.cons n.toNat L drop k = true) ∧ (enough n.toNat (turned L) drop k = true ∧ Ch.cons n.toNat (turned L) drop k = true) := by
  obtain ⟨hc, _, hk⟩ := opn_ok ho
  obtain ⟨σ, hs⟩ := (h.e1 hc []).2.1 hk
  have h1 : Ch.cons n.toNat L drop k = true := (h.e1 hc _).2.2 ⟨σ, sol_drop hs⟩
  exact ⟨⟨(h.e1 hc drop).1, h1⟩, (h.e2 hc drop).1, by rw [h.cons hc drop]; exact h1⟩
theorem ET.spares {n : Int} {L : List Lk} {k : Nat} (h : ET n L k) (ho : Ch.opn n L [] k = 0) {q : Nat} (hq : q < L.length) : Ch.spares n.toNat (turned L) (none' L.length) k q = Ch.spares n.toNat L (none' L.length) k q := by
  obtain ⟨hc, _, hk⟩ := opn_ok ho
  obtain ⟨n1, n2, _, hok⟩ := check_ok hc
  obtain ⟨f0, f1, t0, t1, _⟩ := okLk_spec (hok q hq)
  have hk2 : Ch.cons n.toNat L ((none' L.length).set q true) k = true := by
    obtain ⟨σ, hs⟩ := (h.e1 hc []).2.1 hk
    refine (h.e1 hc _).2.2 ⟨σ, fun v l hl => ?_⟩
    obtain ⟨i, hi, _, rfl, ht⟩ := mem_links_inv hl
    have h1 := mem_links (L := L) (drop := []) hi rfl (by rw [ht]; omega)
    rw [ht] at h1
    exact hs v _ h1
  unfold Ch.spares
  rw [turn_at hq]
  simp only
  rw [twin_turn, h.bt hc hk2 (u := (L.getD q noLk).f.toNat) (v := (L.getD q noLk).t.toNat) (by omega) (by omega)]
theorem ET.idle {n : Int} {L : List Lk} {k : Nat} (h : ET n L k) (ho : Ch.opn n L [] k = 0) : ∀ j, j ≤ L.length → Ch.idleK n.toNat (turned L) k j = Ch.idleK n.toNat L k j
  | 0, _ => rfl
  | j + 1, hj => by
    have ih := h.idle ho j (by omega)
    have e := h.spares ho (q := j) (by omega)
    rw [← turned_len L] at e
    cases hs : Ch.spares n.toNat L (none' L.length) k j
    · rw [idleK_miss hs, idleK_miss (by rw [e, turned_len]; exact hs), ih]
    · rw [idleK_hit hs, idleK_hit (by rw [e, turned_len]; exact hs), ih]

/-- whereBound -/
def whereB (x : List Int) (z : Int) (e : Int) : List Int × Int := if e ≠ 0 then ([], e) else if x.any (fun y => y == z) then ([], 5) else (x, 0)
theorem where_neg {x : List Int} {z e : Int} : (whereB (x.map fun y => -y) z e).2 = (whereB x (-z) e).2 ∧ (whereB (x.map fun y => -y) z e).1 = (whereB x (-z) e).1.map fun y => -y := by
  have h : (x.map fun y => -y).any (fun y => y == z) = x.any (fun y => y == -z) := by
    rw [List.any_map]
    congr 1
    funext y
    simp only [Function.comp]
    rw [Bool.eq_iff_iff, beq_iff_eq, beq_iff_eq]
    omega
  unfold whereB
  rw [h]
  split
  · exact ⟨rfl, rfl⟩
  · split <;> exact ⟨rfl, rfl⟩
/-- Greatest, Least -/
def greatW (n : Int) (L : List Lk) (k : Nat) : List Int × Int := whereB (greatest n L k) free (greatE n L k)
def leastW (n : Int) (L : List Lk) (k : Nat) : List Int × Int := whereB (least n L k) (-free) (opn n L [] k)
theorem great_least {n : Int} {L : List Lk} {k : Nat} : (greatW n L k).2 = (leastW n (turned L) k).2 ∧ (greatW n L k).1 = (leastW n (turned L) k).1.map fun y => -y := by
  have e : greatE n L k = opn n (turned L) [] k := by
    unfold greatE
    by_cases hc : (check n L).1 = 0
    · rw [if_neg (by omega)]
    · rw [if_pos hc]
      unfold opn openE
      rw [check_turn, if_pos hc]
  unfold greatW leastW greatest
  rw [e]
  exact where_neg
end Ch
