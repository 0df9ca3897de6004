/- The plain mathematics of the specification's Best: two neighbours that close in on a number. -/
import Derived.Test.YtpbomeoonknifaaDoorRk
namespace Rt

theorem cop_ne {N D den num : Int} (hg : Int.gcd N D = 1) (hd : 1 ≤ den) (hD : den < D) : num * D ≠ N * den := by
  intro e
  have h5 : Int.gcd D N = 1 := by rw [Int.gcd_comm]; exact hg
  have h6 : D ∣ N * den := ⟨num, by rw [← e, Int.mul_comm]⟩
  have := Nat.le_of_dvd (by omega) (dvd_cop h6 h5)
  omega

/-- p/q and r/s are neighbours, N/D lies strictly between them -/
structure Nb (N D m p q r s : Int) : Prop where
  det : r * q - p * s = 1
  q1 : 1 ≤ q
  s1 : 1 ≤ s
  qm : q ≤ m
  sm : s ≤ m
  lo : p * D < N * q
  hi : N * s < r * D
  lo2 : N * q - p * D ≤ D
  hi2 : r * D - N * s ≤ D

theorem Nb.start {N D m : Int} (hv : vldP N D) (m1 : 1 ≤ m) (hm : m < D) : Nb N D m (N / D) 1 (N / D + 1) 1 := by
  obtain ⟨h1, h2, h3, h4, h5⟩ := hv
  have f := fl_spec (n := N) (d := D) (by omega)
  have ne := cop_ne (num := N / D) h5 (show (1 : Int) ≤ 1 by omega) (by omega)
  have e := Int.mul_comm D (N / D)
  have e2 : (N / D + 1) * D = N / D * D + D := by rw [Int.add_mul, Int.one_mul]
  refine ⟨by omega, by omega, by omega, m1, m1, by omega, by omega, by omega, by omega⟩

theorem Nb.low {N D m p q r s : Int} (h : Nb N D m p q r s) (hs : q + s ≤ m) (hl : (p + r) * D < N * (q + s)) : Nb N D m (p + r) (q + s) r s := by
  obtain ⟨a1, a2, a3, a4, a5, a6, a7, a8, a9⟩ := h
  exact ⟨by grind, by omega, a3, hs, a5, hl, a7, by grind, a9⟩

theorem Nb.high {N D m p q r s : Int} (h : Nb N D m p q r s) (hv : vldP N D) (hm : m < D) (hs : q + s ≤ m) (hl : ¬ (p + r) * D < N * (q + s)) : Nb N D m p q (p + r) (q + s) := by
  obtain ⟨a1, a2, a3, a4, a5, a6, a7, a8, a9⟩ := h
  have ne := cop_ne (num := p + r) hv.2.2.2.2 (show (1 : Int) ≤ q + s by omega) (by omega)
  exact ⟨by grind, a2, by omega, a4, hs, a6, by omega, a8, by grind⟩

theorem bd_mul {N q : Int} (hN : -2147483647 ≤ N ∧ N ≤ 2147483647) (h0 : 0 ≤ q) (h1 : q ≤ 100000) : -214748364700000 ≤ N * q ∧ N * q ≤ 214748364700000 := by
  have y1 : 0 ≤ (2147483647 - N) * q := Int.mul_nonneg (by omega) h0
  have y2 : 0 ≤ (2147483647 + N) * q := Int.mul_nonneg (by omega) h0
  constructor <;> grind

/-- what the walk needs of two neighbours -/
theorem Nb.bd {N D m p q r s : Int} (h : Nb N D m p q r s) (hv : vldP N D) (hm : m ≤ 100000) (hmD : m < D) :
    vldP p q ∧ vldP r s ∧ (-300000000000000 ≤ p * D ∧ p * D ≤ 300000000000000) ∧ (-300000000000000 ≤ r * D ∧ r * D ≤ 300000000000000) ∧ (-300000000000000 ≤ N * q ∧ N * q ≤ 300000000000000) ∧ (-300000000000000 ≤ N * s ∧ N * s ≤ 300000000000000) ∧
      (0 ≤ (N * q - p * D) * s ∧ (N * q - p * D) * s ≤ 300000000000000) ∧ (0 ≤ (r * D - N * s) * q ∧ (r * D - N * s) * q ≤ 300000000000000) := by
  obtain ⟨a1, a2, a3, a4, a5, a6, a7, a8, a9⟩ := h
  obtain ⟨v1, v2, v3, v4, v5⟩ := hv
  have g := cop_det a1
  have n1 := small_num (h := p) (k := q) ⟨v3, v4⟩ (by omega) (show q < D by omega) rfl (by omega)
  have n2 := small_num (h := r) (k := s) ⟨v3, v4⟩ (by omega) (show s < D by omega) rfl (by omega)
  have b1 := bd_mul ⟨v3, v4⟩ (show 0 ≤ q by omega) (by omega)
  have b2 := bd_mul ⟨v3, v4⟩ (show 0 ≤ s by omega) (by omega)
  have c1 := bd_mul (N := N * q - p * D) (q := s) (by omega) (by omega) (by omega)
  have c2 := bd_mul (N := r * D - N * s) (q := q) (by omega) (by omega) (by omega)
  have d1 : 0 ≤ (N * q - p * D) * s := Int.mul_nonneg (by omega) (by omega)
  have d2 : 0 ≤ (r * D - N * s) * q := Int.mul_nonneg (by omega) (by omega)
  exact ⟨⟨a2, by omega, n1.1, n1.2, g.1⟩, ⟨a3, by omega, n2.1, n2.2, g.2⟩, by omega, by omega, by omega, by omega, by omega, by omega⟩

theorem Nb.best_lo {N D m p q r s : Int} (h : Nb N D m p q r s) (hD : 1 ≤ D) (hm : m < q + s) (hc : (N * q - p * D) * s ≤ (r * D - N * s) * q) : BestOf N D m p q :=
  best_low hD h.det h.q1 h.s1 h.qm hm (by have := h.lo; omega) (by have := h.hi; omega) hc
theorem Nb.best_hi {N D m p q r s : Int} (h : Nb N D m p q r s) (hD : 1 ≤ D) (hm : m < q + s) (hc : ¬ (N * q - p * D) * s ≤ (r * D - N * s) * q) : BestOf N D m r s :=
  best_high hD h.det h.q1 h.s1 h.sm hm (by have := h.lo; omega) (by have := h.hi; omega) (by omega)

theorem Nb.finish {N D m : Int} (hv : vldP N D) (hm : m < D) (k : Nat) : ∀ p q r s : Int, Nb N D m p q r s → (m + 1 - (q + s)).toNat ≤ k → ∃ x y, BestOf N D m x y := by
  induction k with
  | zero =>
    intro p q r s h hk
    by_cases hc : (N * q - p * D) * s ≤ (r * D - N * s) * q
    · exact ⟨_, _, h.best_lo hv.1 (by omega) hc⟩
    · exact ⟨_, _, h.best_hi hv.1 (by omega) hc⟩
  | succ k ih =>
    intro p q r s h hk
    have h1 := h.q1; have h2 := h.s1
    by_cases hs : q + s ≤ m
    · by_cases hl : (p + r) * D < N * (q + s)
      · exact ih _ _ _ _ (h.low hs hl) (by omega)
      · exact ih _ _ _ _ (h.high hv hm hs hl) (by omega)
    · by_cases hc : (N * q - p * D) * s ≤ (r * D - N * s) * q
      · exact ⟨_, _, h.best_lo hv.1 (by omega) hc⟩
      · exact ⟨_, _, h.best_hi hv.1 (by omega) hc⟩

theorem best_exists {N D m : Int} (hv : vldP N D) (m1 : 1 ≤ m) (hm : m < D) : ∃ x y, BestOf N D m x y :=
  Nb.finish hv hm _ _ _ _ _ (Nb.start hv m1 hm) (Nat.le_refl _)
end Rt
