/- What the simplest number of an interval is: in it, and least. -/
import Derived.Test.YtpbomeoonknifaaDoorK
namespace Go.Proofs.YtpbomeoonknifaaDoor
open Go.RowKit

/-- p/q lies from a/b to c/d, and nothing there is simpler -/
structure SimP (a b c d p q : Int) : Prop where
  v : Rt.vldP p q
  lo : a * q ≤ p * b
  hi : p * d ≤ c * q
  least : ∀ u v : Int, 1 ≤ v → a * v ≤ u * b → u * d ≤ c * v → q ≤ v ∧ p.natAbs ≤ u.natAbs

theorem smp_spec {a b c d : Int} (h : vrP a b c d) : SimP a b c d (smp a b c d).1 (smp a b c d).2 := by
  have ⟨⟨x1, x2, x3, x4, _⟩, ⟨y1, y2, y3, y4, _⟩, h3⟩ := h
  by_cases ha : 0 < a
  · have hs := sim_pos h ha
    have hb := spl_bd hs
    obtain ⟨r1, r2, r3, r4, r5, r6⟩ := Rt.spl_spec _ a b c d (Nat.le_refl _) (by omega) (by omega) (by omega) hs.le
    unfold smp; rw [if_pos ha]
    exact ⟨⟨r2, by omega, by omega, by omega, r5⟩, r3, r4, fun u v h1 h2 h3 => by have := r6 u v h1 h2 h3; omega⟩
  · by_cases hc : c < 0
    · have hs := sim_neg h hc
      have hb := spl_bd hs
      have := hs.a1; have := hs.c1; have := hs.a0
      obtain ⟨r1, r2, r3, r4, r5, r6⟩ := Rt.spl_spec _ (-c) d (-a) b (Nat.le_refl _) (by omega) (by omega) (by omega) hs.le
      unfold smp; rw [if_neg ha, if_pos hc]
      generalize (Rt.spl (-c) d (-a) b).1 = p at *
      generalize (Rt.spl (-c) d (-a) b).2 = q at *
      refine ⟨⟨r2, by omega, by omega, by omega, by rw [Int.neg_gcd]; exact r5⟩, by rw [Int.neg_mul] at *; omega, by rw [Int.neg_mul] at *; omega, fun u v h1 h2 h3 => ?_⟩
      have := r6 (-u) v h1 (by rw [Int.neg_mul, Int.neg_mul]; omega) (by rw [Int.neg_mul, Int.neg_mul]; omega)
      omega
    · unfold smp; rw [if_neg ha, if_neg hc]
      exact ⟨by decide, by omega, by omega, fun u v h1 _ _ => by omega⟩

theorem le_tr {a b a' b' u v : Int} (hb' : 0 < b') (hb : 0 < b) (hv : 0 < v) (h1 : a * b' ≤ a' * b) (h2 : a' * v ≤ u * b') : a * v ≤ u * b := by
  have e1 : a * b' * v ≤ a' * b * v := Int.mul_le_mul_of_nonneg_right h1 (by omega)
  have e2 : a' * v * b ≤ u * b' * b := Int.mul_le_mul_of_nonneg_right h2 (by omega)
  have e3 : b' * (a * v) ≤ b' * (u * b) := by grind
  exact (Rt.mul_le_cancel hb').1 e3

theorem in_pos {a b u v : Int} (ha : 0 < a) (hb : 0 < b) (hv : 0 < v) (h : a * v ≤ u * b) : 0 < u := by
  rcases Int.lt_or_le 0 u with h1 | h1
  · exact h1
  · have := Int.mul_nonpos_of_nonpos_of_nonneg h1 (show 0 ≤ b by omega)
    have := Int.mul_pos ha hv
    omega
theorem in_neg {c d u v : Int} (hc : c < 0) (hd : 0 < d) (hv : 0 < v) (h : u * d ≤ c * v) : u < 0 := by
  rcases Int.lt_or_le u 0 with h1 | h1
  · exact h1
  · have := Int.mul_nonneg h1 (show 0 ≤ d by omega)
    have := Int.mul_neg_of_neg_of_pos hc hv
    omega

/-- an interval y within x: its simplest number is no simpler; if it has x's, it is that one -/
theorem smp_sub {a b c d a' b' c' d' : Int} (hx : vrP a b c d) (hy : vrP a' b' c' d') (h1 : a * b' ≤ a' * b) (h2 : c' * d ≤ c * d') :
    (smp a b c d).2 ≤ (smp a' b' c' d').2 ∧ (a' * (smp a b c d).2 ≤ (smp a b c d).1 * b' → (smp a b c d).1 * d' ≤ c' * (smp a b c d).2 → smp a' b' c' d' = smp a b c d) := by
  have sx := smp_spec hx
  have sy := smp_spec hy
  have ⟨⟨x1, _⟩, ⟨y1, _⟩, _⟩ := hx
  have ⟨⟨z1, _⟩, ⟨w1, _⟩, _⟩ := hy
  have k1 := sx.v.1
  have k2 := sy.v.1
  have m := sx.least _ _ k2 (le_tr (by omega) (by omega) (by omega) h1 sy.lo) (by
    have e1 := sy.hi
    have := le_tr (a := -c) (b := d) (a' := -c') (b' := d') (u := -(smp a' b' c' d').1) (v := (smp a' b' c' d').2) (by omega) (by omega) (by omega) (by rw [Int.neg_mul, Int.neg_mul]; omega) (by rw [Int.neg_mul, Int.neg_mul]; omega)
    rw [Int.neg_mul, Int.neg_mul] at this; omega)
  refine ⟨m.1, fun g1 g2 => ?_⟩
  have n := sy.least _ _ k1 g1 g2
  have e2 : (smp a' b' c' d').2 = (smp a b c d).2 := by omega
  have e1 : (smp a' b' c' d').1 = (smp a b c d).1 := by
    by_cases ha : 0 < a'
    · have := in_pos ha (show 0 < b' by omega) (by omega) g1
      have := in_pos ha (show 0 < b' by omega) (by omega) sy.lo
      omega
    · by_cases hc : c' < 0
      · have := in_neg hc (show 0 < d' by omega) (by omega) g2
        have := in_neg hc (show 0 < d' by omega) (by omega) sy.hi
        omega
      · have : (smp a' b' c' d').1 = 0 := by unfold smp; rw [if_neg ha, if_neg hc]
        omega
  exact Prod.ext e1 e2
end Go.Proofs.YtpbomeoonknifaaDoor
