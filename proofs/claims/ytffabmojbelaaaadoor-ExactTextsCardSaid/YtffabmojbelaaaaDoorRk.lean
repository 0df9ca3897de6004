/- The plain mathematics of convergents: what holds of the last two of them while the terms of a number come. -/
import Derived.Test.YtffabmojbelaaaaDoorRt
namespace Rt

/-- the last two convergents h0/k0, h1/k1 of N/D behind the terms pre, and what is left of it, num/den -/
structure St (N D : Int) (pre : List Int) (h0 k0 h1 k1 num den : Int) : Prop where
  rest : cf N D = pre ++ cf num den
  top : N = h1 * num + h0 * den
  bot : D = k1 * num + k0 * den
  det : h1 * k0 - h0 * k1 = 1 ∨ h1 * k0 - h0 * k1 = -1
  d0 : 0 ≤ den
  first : pre = [] → h0 = 0 ∧ k0 = 1 ∧ h1 = 1 ∧ k1 = 0 ∧ num = N ∧ den = D
  later : pre ≠ [] → 1 ≤ k1 ∧ 0 ≤ k0 ∧ den < num

theorem St.start (N D : Int) (h : 1 ≤ D) : St N D [] 0 1 1 0 N D :=
  ⟨rfl, by omega, by omega, .inl (by omega), by omega, fun _ => ⟨rfl, rfl, rfl, rfl, rfl, rfl⟩, fun h => (h rfl).elim⟩

theorem St.next {N D : Int} {pre : List Int} {h0 k0 h1 k1 num den : Int} (s : St N D pre h0 k0 h1 k1 num den) (hd : 0 < den) :
    St N D (pre ++ [num / den]) h1 k1 (h0 + num / den * h1) (k0 + num / den * k1) den (num % den) := by
  have e := Int.mul_ediv_add_emod num den
  have b1 := Int.emod_lt_of_pos num hd
  have b0 := Int.emod_nonneg num (show den ≠ 0 by omega)
  refine ⟨?_, ?_, ?_, ?_, b0, fun h => by simp at h, fun _ => ⟨?_, ?_, b1⟩⟩
  · rw [s.rest, cf_pos hd, List.append_assoc]; rfl
  · have := s.top; grind
  · have := s.bot; grind
  · rcases s.det with h | h
    · right; grind
    · left; grind
  · by_cases hp : pre = []
    · obtain ⟨_, a2, _, a4, _, _⟩ := s.first hp
      rw [a2, a4]; omega
    · obtain ⟨a1, a2, a3⟩ := s.later hp
      have h1 : 1 ≤ num / den := (le_fl hd).2 (by omega)
      have h2 : 1 * k1 ≤ num / den * k1 := Int.mul_le_mul_of_nonneg_right h1 (by omega)
      omega
  · by_cases hp : pre = []
    · obtain ⟨_, _, _, a4, _, _⟩ := s.first hp
      omega
    · have := (s.later hp).1; omega

/-- the last convergent is as near as what is left says -/
theorem St.near {N D : Int} {pre : List Int} {h0 k0 h1 k1 num den : Int} (s : St N D pre h0 k0 h1 k1 num den) :
    N * k1 - h1 * D = -(h1 * k0 - h0 * k1) * den := by
  have a := s.top; have b := s.bot
  rw [a, b]; grind

/-- .. and not greater than the number by much -/
theorem St.bd {N D : Int} {pre : List Int} {h0 k0 h1 k1 num den : Int} (s : St N D pre h0 k0 h1 k1 num den) (hp : pre ≠ []) (hD : 1 ≤ D) (hN : -2147483647 ≤ N ∧ N ≤ 2147483647) :
    k1 ≤ D ∧ -2147483648 ≤ h1 ∧ h1 ≤ 2147483648 ∧ den < D := by
  obtain ⟨a1, a2, a3⟩ := s.later hp
  have d0 := s.d0
  have m0 : 0 ≤ k0 * den := Int.mul_nonneg a2 d0
  have m1 : k1 * 1 ≤ k1 * num := Int.mul_le_mul_of_nonneg_left (by omega) (by omega)
  have m2 : 1 * num ≤ k1 * num := Int.mul_le_mul_of_nonneg_right a1 (by omega)
  have hb := s.bot
  have hk : k1 ≤ D := by omega
  have hd : den < D := by omega
  have hn := s.near
  have n1 : -(D * 2147483647) ≤ N * k1 ∧ N * k1 ≤ D * 2147483647 := by
    have x1 : 0 ≤ (2147483647 - N) * k1 := Int.mul_nonneg (by omega) (by omega)
    have x2 : 0 ≤ (2147483647 + N) * k1 := Int.mul_nonneg (by omega) (by omega)
    have x3 : k1 * 2147483647 ≤ D * 2147483647 := Int.mul_le_mul_of_nonneg_right hk (by omega)
    constructor <;> grind
  have n2 : -den ≤ N * k1 - h1 * D ∧ N * k1 - h1 * D ≤ den := by
    rw [hn]
    rcases s.det with h | h <;> rw [h] <;> omega
  refine ⟨hk, ?_, ?_, hd⟩
  · have : D * (-2147483648) ≤ D * h1 := by grind
    exact (mul_le_cancel (by omega)).1 this
  · have : D * h1 ≤ D * 2147483648 := by grind
    exact (mul_le_cancel (by omega)).1 this

/-- when nothing is left, the last convergent is the number -/
theorem St.last {N D : Int} {pre : List Int} {h0 k0 h1 k1 num : Int} (s : St N D pre h0 k0 h1 k1 num 0) (hp : pre ≠ []) (hD : 1 ≤ D) (hg : Int.gcd N D = 1) : h1 = N ∧ k1 = D := by
  obtain ⟨a1, _, a3⟩ := s.later hp
  have t := s.top; have b := s.bot
  have hg1 : Int.gcd h1 k1 = 1 := by
    have : (Int.gcd h1 k1 : Int) ∣ 1 := by
      rcases s.det with h | h
      · rw [← h]
        exact Int.dvd_sub (Int.dvd_mul_of_dvd_left (Int.gcd_dvd_left ..)) (Int.dvd_mul_of_dvd_right (Int.gcd_dvd_right ..))
      · have h2 : (1 : Int) = h0 * k1 - h1 * k0 := by omega
        rw [h2]
        exact Int.dvd_sub (Int.dvd_mul_of_dvd_right (Int.gcd_dvd_right ..)) (Int.dvd_mul_of_dvd_left (Int.gcd_dvd_left ..))
    have := Int.natAbs_dvd_natAbs.2 this
    simpa using this
  have hx : N * k1 = h1 * D := by rw [t, b]; grind
  have := gcd_one_cross hg hg1 hD a1 hx
  omega

/-- the one before the last is near, too -/
theorem St.bd0 {N D : Int} {pre : List Int} {h0 k0 h1 k1 num den : Int} (s : St N D pre h0 k0 h1 k1 num den) (hd : 0 < den) (hD : 1 ≤ D) (hN : -2147483647 ≤ N ∧ N ≤ 2147483647) :
    0 ≤ k0 ∧ k0 ≤ D ∧ -2147483648 ≤ h0 ∧ h0 ≤ 2147483648 := by
  by_cases hp : pre = []
  · obtain ⟨a1, a2, _, _, _, _⟩ := s.first hp
    omega
  obtain ⟨a1, a2, a3⟩ := s.later hp
  have m0 : k0 * 1 ≤ k0 * den := Int.mul_le_mul_of_nonneg_left (by omega) a2
  have m2 : 1 * num ≤ k1 * num := Int.mul_le_mul_of_nonneg_right a1 (by omega)
  have hb := s.bot
  have m3 : 0 ≤ k0 * den := Int.mul_nonneg a2 (by omega)
  have hk : k0 ≤ D := by omega
  have hn : N * k0 - h0 * D = (h1 * k0 - h0 * k1) * num := by
    have t := s.top; have b := s.bot
    rw [t, b]; grind
  have n2 : -num ≤ N * k0 - h0 * D ∧ N * k0 - h0 * D ≤ num := by
    rw [hn]
    rcases s.det with h | h <;> rw [h] <;> omega
  have y1 : 0 ≤ (2147483647 - N) * k0 := Int.mul_nonneg (by omega) a2
  have y2 : 0 ≤ (2147483647 + N) * k0 := Int.mul_nonneg (by omega) a2
  have y3 : k0 * 2147483647 ≤ D * 2147483647 := Int.mul_le_mul_of_nonneg_right hk (by omega)
  refine ⟨a2, hk, ?_, ?_⟩
  · have : D * (-2147483648) ≤ D * h0 := by grind
    exact (mul_le_cancel (by omega)).1 this
  · have : D * h0 ≤ D * 2147483648 := by grind
    exact (mul_le_cancel (by omega)).1 this

/-- the term that comes next is the quotient of what is left -/
theorem St.comes {N D : Int} {pre : List Int} {h0 k0 h1 k1 num den x : Int} (s : St N D pre h0 k0 h1 k1 num den) (h : pre ++ [x] <+: cf N D) : 0 < den ∧ x = num / den := by
  rw [s.rest] at h
  have h2 := (List.prefix_append_right_inj pre).1 h
  have d0 := s.d0
  rcases Int.lt_or_le 0 den with h6 | h6
  · rw [cf_pos h6] at h2
    obtain ⟨r, hr⟩ := h2
    simp at hr
    exact ⟨h6, hr.1⟩
  · obtain rfl : den = 0 := by omega
    rw [cf_zero] at h2
    obtain ⟨r, hr⟩ := h2
    simp at hr

theorem cop_det {p q r s : Int} (h : r * q - p * s = 1) : Int.gcd p q = 1 ∧ Int.gcd r s = 1 := by
  constructor
  · have : (Int.gcd p q : Int) ∣ 1 := by
      rw [← h]
      exact Int.dvd_sub (Int.dvd_mul_of_dvd_right (Int.gcd_dvd_right ..)) (Int.dvd_mul_of_dvd_left (Int.gcd_dvd_left ..))
    have := Int.natAbs_dvd_natAbs.2 this
    simpa using this
  · have : (Int.gcd r s : Int) ∣ 1 := by
      rw [← h]
      exact Int.dvd_sub (Int.dvd_mul_of_dvd_left (Int.gcd_dvd_left ..)) (Int.dvd_mul_of_dvd_right (Int.gcd_dvd_right ..))
    have := Int.natAbs_dvd_natAbs.2 this
    simpa using this

/-- a numerator over a small denominator near N/D fits -/
theorem small_num {N D h k x : Int} (hN : -2147483647 ≤ N ∧ N ≤ 2147483647) (hk0 : 0 ≤ k) (hk : k < D) (hx : N * k - h * D = x) (x1 : -D ≤ x ∧ x ≤ D) : -2147483647 ≤ h ∧ h ≤ 2147483647 := by
  have hD : 0 < D := by omega
  have y1 : 0 ≤ (2147483647 - N) * k := Int.mul_nonneg (by omega) hk0
  have y2 : 0 ≤ (2147483647 + N) * k := Int.mul_nonneg (by omega) hk0
  have y3 : k * 2147483647 ≤ (D - 1) * 2147483647 := Int.mul_le_mul_of_nonneg_right (by omega) (by omega)
  constructor
  · have : D * (-2147483648) < D * h := by grind
    have := (mul_lt_cancel hD).1 this
    omega
  · have : D * h < D * 2147483648 := by grind
    have := (mul_lt_cancel hD).1 this
    omega

/-- what stands where the next denominator is too great -/
structure Leave (N D m h1 k1 hs ks : Int) : Prop where
  v1 : vldP h1 k1
  v2 : vldP hs ks
  ks1 : ks ≤ m
  sum : m < k1 + ks
  side : (h1 * ks - hs * k1 = 1 ∧ hs * D ≤ N * ks ∧ N * k1 ≤ h1 * D ∧ N * ks - hs * D ≤ 4294967296 ∧ h1 * D - N * k1 ≤ 4294967296) ∨
    (hs * k1 - h1 * ks = 1 ∧ h1 * D ≤ N * k1 ∧ N * ks ≤ hs * D ∧ N * k1 - h1 * D ≤ 4294967296 ∧ hs * D - N * ks ≤ 4294967296)

theorem St.leave {N D m : Int} {pre : List Int} {h0 k0 h1 k1 num den : Int} (s : St N D pre h0 k0 h1 k1 num den) (hv : vldP N D) (hp : pre ≠ []) (hd : 0 < den) (hk : k1 ≤ m) (_hm : m ≤ 100000) (hn : m < k0 + num / den * k1) (k0m : k0 ≤ m) :
    Leave N D m h1 k1 (h0 + (m - k0) / k1 * h1) (k0 + (m - k0) / k1 * k1) := by
  obtain ⟨v1, v2, v3, v4, _⟩ := hv
  obtain ⟨a1, a2, a3⟩ := s.later hp
  have nx := (s.next hd).bd (by simp) v1 ⟨v3, v4⟩
  have bd := s.bd hp v1 ⟨v3, v4⟩
  have fs := fl_spec (n := m - k0) (d := k1) (by omega)
  have fn := fl_spec (n := num) (d := den) hd
  have st0 : 0 ≤ (m - k0) / k1 := Int.ediv_nonneg (by omega) (by omega)
  generalize hst : (m - k0) / k1 = st at *
  generalize ht : num / den = t at *
  have stt : st < t := by
    have : k1 * st < k1 * t := by grind
    exact (mul_lt_cancel (by omega)).1 this
  have ks1 : k0 + st * k1 ≤ m := by grind
  have ks2 : m < k1 + (k0 + st * k1) := by grind
  have nr := s.near
  have ns : N * (k0 + st * k1) - (h0 + st * h1) * D = (h1 * k0 - h0 * k1) * (num - st * den) := by
    have t1 := s.top; have b1 := s.bot
    rw [t1, b1]; grind
  have q0 : 0 ≤ num - st * den := by
    have : st * den ≤ t * den := Int.mul_le_mul_of_nonneg_right (by omega) (by omega)
    grind
  have q2 : 0 ≤ st * den := Int.mul_nonneg st0 (by omega)
  have nD : num ≤ D := by
    have m0 : 0 ≤ k0 * den := Int.mul_nonneg a2 (by omega)
    have m2 : 1 * num ≤ k1 * num := Int.mul_le_mul_of_nonneg_right a1 (by omega)
    have := s.bot
    omega
  have kD : k1 < D := by omega
  have ksD : k0 + st * k1 < D := by omega
  have ks0 : 1 ≤ k0 + st * k1 := by omega
  have dx : h1 * (k0 + st * k1) - (h0 + st * h1) * k1 = h1 * k0 - h0 * k1 := by grind
  have hb1 : -2147483647 ≤ h1 ∧ h1 ≤ 2147483647 := small_num ⟨v3, v4⟩ (by omega) kD nr (by rcases s.det with h | h <;> rw [h] <;> omega)
  have hbs : -2147483647 ≤ h0 + st * h1 ∧ h0 + st * h1 ≤ 2147483647 := small_num ⟨v3, v4⟩ (by omega) ksD ns (by rcases s.det with h | h <;> rw [h] <;> omega)
  rcases s.det with h | h
  · rw [h] at dx nr ns
    have g := cop_det (p := h0 + st * h1) (q := k0 + st * k1) (r := h1) (s := k1) (by omega)
    exact ⟨⟨a1, by omega, hb1.1, hb1.2, g.2⟩, ⟨ks0, by omega, hbs.1, hbs.2, g.1⟩, ks1, ks2, .inl ⟨by omega, by omega, by omega, by omega, by omega⟩⟩
  · rw [h] at dx nr ns
    have g := cop_det (p := h1) (q := k1) (r := h0 + st * h1) (s := k0 + st * k1) (by omega)
    exact ⟨⟨a1, by omega, hb1.1, hb1.2, g.1⟩, ⟨ks0, by omega, hbs.1, hbs.2, g.2⟩, ks1, ks2, .inr ⟨by omega, by omega, by omega, by omega, by omega⟩⟩

end Rt
