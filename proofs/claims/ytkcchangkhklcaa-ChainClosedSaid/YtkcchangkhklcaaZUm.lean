/- Package chain, mirrored: bounds, the greatest and the least solution, and what encloses each one. -/
import Derived.Test.YtkcchangkhklcaaZYs
set_option linter.unusedSimpArgs false
set_option linter.unusedVariables false
namespace Ch

theorem least_at {n : Int} {L : List Lk} {k i : Nat} : (least n L k).getD i 0 = -(tb n L k i 0) := by
  unfold least tb
  rw [getD_neg]
theorem ET.great_at {n : Int} {L : List Lk} {k : Nat} (h : ET n L k) (ho : Ch.opn n L [] k = 0) {i : Nat} (hi : i < n.toNat) : (greatest n L k).getD i 0 = Ch.tb n L k 0 i := by
  obtain ⟨hc, _, hk⟩ := opn_ok ho
  unfold greatest
  rw [getD_neg, least_at]
  unfold Ch.tb
  rw [h.bt hc hk (u := 0) (v := i) (by omega) hi]
  omega
theorem ET.greatE {n : Int} {L : List Lk} {k : Nat} (h : ET n L k) (ho : Ch.opn n L [] k = 0) : Ch.greatE n L k = 0 := by
  unfold Ch.greatE
  rw [if_neg (by have := (opn_ok ho).1; omega), h.openE [] [] rfl, ho]
theorem any_false_at {x : List Int} {z : Int} (h : ¬ x.any (fun y => y == z) = true) {i : Nat} (hi : i < x.length) : x.getD i 0 ≠ z := fun e => h (by
  rw [List.any_eq_true]
  exact ⟨x.getD i 0, by rw [List.getD, List.getElem?_eq_getElem hi]; exact List.getElem_mem hi, by rw [beq_iff_eq]; exact e⟩)

/-- what each solution lies within -/
theorem closed_fit {n : Int} {L : List Lk} {k : Nat} (h : ET n L k) (ho : Ch.opn n L [] k = 0) {x : List Int} (hx : Ch.fits n L x = (true, 0)) {i : Nat} (hi : i < n.toNat) : -(Ch.tb n L k i 0) ≤ x.getD i 0 ∧ x.getD i 0 ≤ Ch.tb n L k 0 i := by
  obtain ⟨_, _, hD⟩ := tb_of h.en ho
  obtain ⟨_, hl, hr, hs, h0⟩ := fits_sol hx
  have hri := hr i (by omega)
  obtain ⟨s, hB, hs1⟩ := hD 0 (by omega)
  obtain ⟨t, hC, hs2⟩ := hD i hi
  have g1 := hB.fits (by omega) hs (u := i) hi
  have g2 := hC.fits hi hs (u := 0) (by omega)
  rw [hs1 i hi, h0] at g1
  rw [hs2 0 (by omega), h0] at g2
  unfold free at g1 g2
  omega
theorem great_fits {n : Int} {L : List Lk} {k : Nat} (h : ET n L k) (ho : Ch.opn n L [] k = 0) (hg : (greatW n L k).2 = 0) : (greatW n L k).1 = greatest n L k ∧ Ch.fits n L (greatest n L k) = (true, 0) := by
  obtain ⟨hc, _, hD⟩ := tb_of h.en ho
  obtain ⟨n1, n2, _, hok⟩ := check_ok hc
  have hge := h.greatE ho
  unfold greatW whereB at hg ⊢
  rw [hge] at hg ⊢
  rw [if_neg (by simp)] at hg ⊢
  by_cases ha : (greatest n L k).any (fun y => y == free) = true
  · rw [if_pos ha] at hg; cases hg
  · rw [if_neg ha]
    have hl := great_len h.en2.en hge
    have hfin : ∀ i, i < n.toNat → Ch.tb n L k 0 i ≠ free := fun i hi => by
      have := any_false_at ha (i := i) (by omega)
      rwa [h.great_at ho hi] at this
    refine ⟨rfl, fits_of hc (by omega) (fun i hi => ?_) (solves_ix.2 fun j hj => ?_) ?_⟩
    · rw [hl] at hi
      rw [h.great_at ho hi]
      have := hD.range (u := 0) (v := i) (by omega) hi
      omega
    · obtain ⟨f0, f1, t0, t1, _⟩ := okLk_spec (hok j hj)
      rw [h.great_at ho (by omega), h.great_at ho (by omega)]
      obtain ⟨l, hl2⟩ := hD.way (u := 0) (v := (L.getD j noLk).f.toNat) (by omega) (by omega) (hfin _ (by omega))
      have hw := way_one (L := L) (drop := []) hj rfl
      rw [show (((L.getD j noLk).f.toNat : Nat) : Int) = (L.getD j noLk).f by omega] at hl2
      have h3 := way_append hl2 hw
      rw [show (L.getD j noLk).t = (((L.getD j noLk).t.toNat : Nat) : Int) by omega] at h3
      exact (hD.up (by omega) (by omega) h3).1
    · rw [h.great_at ho (by omega)]
      exact hD.zero (by omega)
theorem least_fits {n : Int} {L : List Lk} {k : Nat} (h : ET n L k) (ho : Ch.opn n L [] k = 0) (hg : (leastW n L k).2 = 0) : (leastW n L k).1 = least n L k ∧ Ch.fits n L (least n L k) = (true, 0) := by
  obtain ⟨hc, _, hD⟩ := tb_of h.en ho
  obtain ⟨n1, n2, _, hok⟩ := check_ok hc
  unfold leastW whereB at hg ⊢
  rw [ho] at hg ⊢
  rw [if_neg (by simp)] at hg ⊢
  by_cases ha : (least n L k).any (fun y => y == -free) = true
  · rw [if_pos ha] at hg; cases hg
  · rw [if_neg ha]
    have hl := least_len h.en.en ho
    have hfin : ∀ i, i < n.toNat → Ch.tb n L k i 0 ≠ free := fun i hi e => by
      have := any_false_at ha (i := i) (by omega)
      rw [least_at, e] at this
      exact this rfl
    refine ⟨rfl, fits_of hc (by omega) (fun i hi => ?_) (solves_ix.2 fun j hj => ?_) ?_⟩
    · rw [hl] at hi
      rw [least_at]
      have := hD.range (u := i) (v := 0) hi (by omega)
      omega
    · obtain ⟨f0, f1, t0, t1, _⟩ := okLk_spec (hok j hj)
      rw [least_at, least_at]
      obtain ⟨l, hl2⟩ := hD.way (u := (L.getD j noLk).t.toNat) (v := 0) (by omega) (by omega) (hfin _ (by omega))
      have hw := way_one (L := L) (drop := []) hj rfl
      rw [show (((L.getD j noLk).t.toNat : Nat) : Int) = (L.getD j noLk).t by omega] at hl2
      have h3 := way_append hw hl2
      rw [show (L.getD j noLk).f = (((L.getD j noLk).f.toNat : Nat) : Int) by omega] at h3
      have h4 := (hD.up (u := (L.getD j noLk).f.toNat) (v := 0) (by omega) (by omega) h3).1
      omega
    · rw [least_at, hD.zero (by omega)]
      rfl
end Ch
