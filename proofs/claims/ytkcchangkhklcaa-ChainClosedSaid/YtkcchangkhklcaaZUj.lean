/- Package chain, mirrored: two systems whose links are the same, in whatever order. -/
import Derived.Test.YtkcchangkhklcaaZUi
set_option linter.unusedSimpArgs false
set_option linter.unusedVariables false
namespace Ch

/-- each link of the one is one of the other -/
def Sub (L M : List Lk) : Prop := ∀ i, i < L.length → ∃ j, j < M.length ∧ M.getD j noLk = L.getD i noLk
theorem way_sub {L M : List Lk} (h : Sub L M) : ∀ {l : List Nat} {u v w : Int}, way L [] u l v w → ∃ r, way M [] u r v w ∧ r.length = l.length
  | [], u, v, w, hw => ⟨[], hw, rfl⟩
  | i :: l, u, v, w, hw => by
    obtain ⟨h0, _, hf, ht⟩ := hw
    obtain ⟨j, hj, e⟩ := h i h0
    obtain ⟨r, hr, hl⟩ := way_sub h ht
    refine ⟨j :: r, ⟨hj, rfl, by rw [e]; exact hf, by rw [e]; exact hr⟩, by simp [hl]⟩
theorem sol_sub {L M : List Lk} (h : Sub L M) {σ : Nat → Int} (hs : Sol M [] σ) : Sol L [] σ := fun v l hl => by
  obtain ⟨i, hi, _, rfl, ht⟩ := mem_links_inv hl
  obtain ⟨j, hj, e⟩ := h i hi
  have h1 := mem_links (L := M) (drop := []) hj rfl (by rw [e, ht]; omega)
  rw [e, ht] at h1
  exact hs v _ h1
theorem check_one {n : Int} {L : List Lk} (h : (check n L).1 ≠ 0) (h0 : ¬ (n < 1 ∨ 60 < n)) (h1 : ¬ 300 < L.length) : (check n L).1 = 1 := by
  rw [check_mid (by omega) (by omega) h1] at h ⊢
  cases hb : bad n L 0 with
  | none => rw [hb] at h; exact absurd rfl h
  | some k => rfl
theorem check_sub {n : Int} {L M : List Lk} (h : Sub L M) (h2 : Sub M L) (hl : L.length = M.length) : (check n L).1 = (check n M).1 := by
  by_cases h0 : n < 1 ∨ 60 < n
  · rw [check_n h0, check_n h0]
  · by_cases h1 : 300 < L.length
    · rw [check_l h0 h1, check_l h0 (by omega)]
    · have key : ∀ {A B : List Lk}, Sub B A → ¬ 300 < B.length → (check n A).1 = 0 → (check n B).1 = 0 := fun {A B} hs hb hc => by
        obtain ⟨_, _, _, hok⟩ := check_ok hc
        refine check_of (by omega) (by omega) (by omega) fun l hl => ?_
        obtain ⟨k, hk, rfl⟩ := lk_mem hl
        obtain ⟨j, hj, e⟩ := hs k hk
        rw [← e]; exact hok j hj
      by_cases hc : (check n L).1 = 0
      · rw [hc, key h2 (by omega) hc]
      · by_cases hc2 : (check n M).1 = 0
        · exact absurd (key h h1 hc2) hc
        · rw [check_one hc h0 h1, check_one hc2 h0 (by omega)]

structure Same (n : Int) (L M : List Lk) (k k2 : Nat) : Prop where
  e1 : EN n L k
  e2 : EN n M k2
  s1 : Sub L M
  s2 : Sub M L
  len : L.length = M.length
theorem Same.cons {n : Int} {L M : List Lk} {k k2 : Nat} (h : Same n L M k k2) (hc : (check n L).1 = 0) : Ch.cons n.toNat L [] k = Ch.cons n.toNat M [] k2 := by
  have hc2 : (check n M).1 = 0 := by rw [← check_sub h.s1 h.s2 h.len]; exact hc
  have a := h.e1.sol hc
  have b := h.e2.sol hc2
  have : Ch.cons n.toNat L [] k = true ↔ Ch.cons n.toNat M [] k2 = true := by
    rw [a, b]
    exact ⟨fun ⟨σ, hs⟩ => ⟨σ, sol_sub h.s2 hs⟩, fun ⟨σ, hs⟩ => ⟨σ, sol_sub h.s1 hs⟩⟩
  cases h1 : Ch.cons n.toNat L [] k <;> cases h2 : Ch.cons n.toNat M [] k2 <;> simp_all
theorem Same.opn {n : Int} {L M : List Lk} {k k2 : Nat} (h : Same n L M k k2) : opn n L [] k = opn n M [] k2 := by
  have e := check_sub (n := n) h.s1 h.s2 h.len
  by_cases hc : (check n L).1 = 0
  · rw [opn_nil hc, opn_nil (by rw [← e]; exact hc), h.cons hc]
  · unfold Ch.opn openE
    rw [if_pos hc, if_pos (by rw [← e]; exact hc), e]
theorem Same.tb {n : Int} {L M : List Lk} {k k2 : Nat} (h : Same n L M k k2) (ho : Ch.opn n L [] k = 0) {u v : Nat} (hu : u < n.toNat) (hv : v < n.toNat) : tb n L k u v = tb n M k2 u v := by
  obtain ⟨_, _, hD⟩ := tb_of h.e1 ho
  obtain ⟨_, _, hE⟩ := tb_of h.e2 (by rw [← h.opn]; exact ho)
  have g1 : Ch.tb n L k u v ≠ free → Ch.tb n M k2 u v ≤ Ch.tb n L k u v ∧ Ch.tb n M k2 u v ≠ free := fun hf => by
    obtain ⟨l, hl⟩ := hD.way hu hv hf
    obtain ⟨r, hr, _⟩ := way_sub h.s1 hl
    exact hE.up hu hv hr
  have g2 : Ch.tb n M k2 u v ≠ free → Ch.tb n L k u v ≤ Ch.tb n M k2 u v ∧ Ch.tb n L k u v ≠ free := fun hf => by
    obtain ⟨l, hl⟩ := hE.way hu hv hf
    obtain ⟨r, hr, _⟩ := way_sub h.s2 hl
    exact hD.up hu hv hr
  by_cases hf : Ch.tb n L k u v = free
  · by_cases hg : Ch.tb n M k2 u v = free
    · rw [hf, hg]
    · exact absurd hf (g2 hg).2
  · have a := g1 hf
    have b := g2 a.2
    omega
theorem Same.clash {n : Int} {L M : List Lk} {k k2 : Nat} (h : Same n L M k k2) : ∃ c d er, clashE n L k = some (c, er) ∧ clashE n M k2 = some (d, er) ∧ c.length = d.length := by
  have e := check_sub (n := n) h.s1 h.s2 h.len
  by_cases hc : (check n L).1 = 0
  · have hc2 : (check n M).1 = 0 := by rw [← e]; exact hc
    cases hk : Ch.cons n.toNat L [] k
    · have hk2 : Ch.cons n.toNat M [] k2 = false := by rw [← h.cons hc]; exact hk
      obtain ⟨n1, n2, _, hok⟩ := check_ok hc
      obtain ⟨_, _, _, hok2⟩ := check_ok hc2
      have hN : ((n.toNat : Nat) : Int) = n := by omega
      have no1 : ¬ ∃ σ, Sol L [] σ := fun hs => by
        have := (h.e1.sol hc).2 hs
        rw [hk] at this; cases this
      have no2 : ¬ ∃ σ, Sol M [] σ := fun hs => by
        have := (h.e2.sol hc2).2 hs
        rw [hk2] at this; cases this
      obtain ⟨c, a1, ⟨x, w, a2, a3⟩, _, _, a6⟩ := clash_ex (n := n.toNat) (by omega) (by rw [hN]; exact hok) no1
      obtain ⟨d, b1, ⟨y, z, b2, b3⟩, _, _, b6⟩ := clash_ex (n := n.toNat) (by omega) (by rw [hN]; exact hok2) no2
      obtain ⟨r, r1, r2⟩ := way_sub h.s1 a2
      obtain ⟨q, q1, q2⟩ := way_sub h.s2 b2
      have g1 := b6 r x w r1 a3
      have g2 := a6 q y z q1 b3
      refine ⟨c, d, 0, ?_, ?_, by omega⟩
      · unfold clashE; rw [if_neg (by omega), hk, a1]; rfl
      · unfold clashE; rw [if_neg (by omega), hk2, b1]; rfl
    · have hk2 : Ch.cons n.toNat M [] k2 = true := by rw [← h.cons hc]; exact hk
      refine ⟨[], [], 5, ?_, ?_, rfl⟩
      · unfold clashE; rw [if_neg (by omega), if_pos hk]
      · unfold clashE; rw [if_neg (by omega), if_pos hk2]
  · refine ⟨[], [], (check n L).1, ?_, ?_, rfl⟩
    · unfold clashE; rw [if_pos hc]
    · unfold clashE; rw [if_pos (by rw [← e]; exact hc), e]

/-- the links from the t-th on, round: the first j of them -/
def rot (L : List Lk) (t j : Nat) : List Lk := (List.range j).map fun i => L.getD ((i + t) % L.length) noLk
theorem rot_next {L : List Lk} {t j : Nat} : rot L t (j + 1) = rot L t j ++ [L.getD ((j + t) % L.length) noLk] := by
  unfold rot
  rw [List.range_succ, List.map_append]
  rfl
theorem rot_len (L : List Lk) (t j : Nat) : (rot L t j).length = j := by simp [rot]
theorem rot_at {L : List Lk} {t j i : Nat} (h : i < j) : (rot L t j).getD i noLk = L.getD ((i + t) % L.length) noLk := by
  unfold rot
  rw [List.getD, List.getElem?_map, List.getElem?_range h]; rfl
theorem rot_sub {L : List Lk} {t : Nat} : Sub (rot L t L.length) L := fun i hi => by
  rw [rot_len] at hi
  exact ⟨(i + t) % L.length, Nat.mod_lt _ (by omega), by rw [rot_at hi]⟩
theorem sub_rot {L : List Lk} {t : Nat} : Sub L (rot L t L.length) := fun i hi => by
  have h0 : 0 < L.length := by omega
  have ht := Nat.mod_lt t h0
  refine ⟨(i + (L.length - t % L.length)) % L.length, by rw [rot_len]; exact Nat.mod_lt _ h0, ?_⟩
  rw [rot_at (Nat.mod_lt _ h0)]
  congr 1
  have e : i + (L.length - t % L.length) + t = i + L.length * (t / L.length + 1) := by
    have := Nat.div_add_mod t L.length
    rw [Nat.mul_add, Nat.mul_one]
    omega
  rw [Nat.mod_add_mod, e, Nat.add_mul_mod_self_left, Nat.mod_eq_of_lt hi]
end Ch
