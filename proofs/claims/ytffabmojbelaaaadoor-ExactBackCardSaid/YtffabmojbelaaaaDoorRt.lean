/- The plain mathematics of rational numbers that fit into 31 bits, continued fractions, the simplest and the best number; no Go in sight. -/
namespace Rt

/-- the greatest numerator and denominator -/
def Fits (r : Rat) : Prop := r.num.natAbs ≤ 2147483647 ∧ r.den ≤ 2147483647
instance (r : Rat) : Decidable (Fits r) := by unfold Fits; infer_instance

structure Num where
  n : Int
  d : Int
  e : Int
deriving DecidableEq

def fit (r : Rat) : Num := if Fits r then ⟨r.num, r.den, 0⟩ else ⟨0, 0, 3⟩
def mk (n d : Int) : Num := if d = 0 then ⟨0, 0, 1⟩ else fit (Rat.divInt n d)
def vldP (n d : Int) : Prop := 1 ≤ d ∧ d ≤ 2147483647 ∧ -2147483647 ≤ n ∧ n ≤ 2147483647 ∧ Int.gcd n d = 1
instance (n d : Int) : Decidable (vldP n d) := by unfold vldP; infer_instance
def vld (n d : Int) : Bool := decide (vldP n d)

theorem vld_iff {n d : Int} : vld n d = true ↔ vldP n d := by simp [vld]
theorem vld_not {n d : Int} : vld n d = false ↔ ¬ vldP n d := by simp [vld]

theorem num_of_vld {n d : Int} (h : vldP n d) : (Rat.divInt n d).num = n ∧ ((Rat.divInt n d).den : Int) = d := by
  obtain ⟨h1, h2, h3, h4, h5⟩ := h
  rw [Rat.num_divInt, Rat.den_divInt, if_neg (by omega)]
  rw [Int.gcd_comm] at h5
  rw [h5, Int.sign_eq_one_of_pos (by omega)]
  simp; omega

theorem fits_of_vld {n d : Int} (h : vldP n d) : Fits (Rat.divInt n d) := by
  have ⟨a, b⟩ := num_of_vld h
  obtain ⟨h1, h2, h3, h4, h5⟩ := h
  unfold Fits; omega

theorem fit_of_vld {n d : Int} (h : vldP n d) : fit (Rat.divInt n d) = ⟨n, d, 0⟩ := by
  have ⟨a, b⟩ := num_of_vld h
  rw [fit, if_pos (fits_of_vld h), a, b]

theorem vld_of_fit {r : Rat} (h : Fits r) : vldP r.num r.den := by
  unfold Fits at h
  have := r.den_nz
  have hr := r.reduced
  refine ⟨by omega, by omega, by omega, by omega, ?_⟩
  rw [Int.gcd_eq_natAbs_gcd_natAbs]
  simpa using hr

theorem divInt_num_den (r : Rat) : Rat.divInt r.num (r.den : Int) = r := Rat.num_divInt_den r

/-- what a valid pair is: a rational that fits -/
theorem vld_rat {n d : Int} (h : vldP n d) : ∃ r : Rat, Fits r ∧ n = r.num ∧ d = r.den := by
  have ⟨a, b⟩ := num_of_vld h
  exact ⟨Rat.divInt n d, fits_of_vld h, a.symm, b.symm⟩

theorem mk_eq {n d : Int} (h : d ≠ 0) : mk n d = fit (Rat.divInt n d) := by rw [mk, if_neg h]
theorem mk_zero (n : Int) : mk n 0 = ⟨0, 0, 1⟩ := rfl

theorem fit_e (r : Rat) : (fit r).e = 0 ∨ (fit r).e = 3 := by unfold fit; split <;> simp
theorem fit_ok {r : Rat} (h : (fit r).e = 0) : Fits r ∧ (fit r).n = r.num ∧ (fit r).d = r.den := by
  unfold fit at *; split at h
  · rename_i hf; exact ⟨hf, by simp [hf]⟩
  · simp at h

/-- the numbers that Make reckons with: the absolute values divided by their greatest common divisor -/
def aN (n d : Int) : Nat := n.natAbs / Nat.gcd n.natAbs d.natAbs
def aD (n d : Int) : Nat := d.natAbs / Nat.gcd n.natAbs d.natAbs

theorem den_mk {n d : Int} (h : d ≠ 0) : (Rat.divInt n d).den = aD n d := by
  rw [Rat.den_divInt, if_neg h, aD, Int.gcd_eq_natAbs_gcd_natAbs, Nat.gcd_comm]

theorem num_mk {n d : Int} (h : d ≠ 0) : (Rat.divInt n d).num = if (n < 0) ↔ (d < 0) then (aN n d : Int) else -(aN n d : Int) := by
  rw [Rat.num_divInt, Int.gcd_eq_natAbs_gcd_natAbs, Nat.gcd_comm, aN]
  have hg : (Nat.gcd n.natAbs d.natAbs) ∣ n.natAbs := Nat.gcd_dvd_left _ _
  have hgi : ((Nat.gcd n.natAbs d.natAbs : Nat) : Int) ∣ n := by
    rw [Int.ofNat_dvd_left]; exact hg
  generalize hG : Nat.gcd n.natAbs d.natAbs = g at *
  obtain ⟨k, hk⟩ := hgi
  have hgp : 0 < g := by rw [← hG]; exact Nat.gcd_pos_of_pos_right _ (by omega)
  have hk2 : n.natAbs = g * k.natAbs := by rw [hk, Int.natAbs_mul]; simp
  have e1 : n.natAbs / g = k.natAbs := by rw [hk2]; exact Nat.mul_div_cancel_left _ hgp
  have e2 : ∀ s : Int, s * n / (g : Int) = s * k := by
    intro s; rw [hk, show s * ((g : Int) * k) = (g : Int) * (s * k) from by grind]; exact Int.mul_ediv_cancel_left _ (by omega)
  rw [e1, e2]
  have hs : (n < 0) ↔ (k < 0) := by
    constructor
    · intro hn
      rcases Int.lt_or_le k 0 with h | h
      · exact h
      · have := Int.mul_nonneg (show (0 : Int) ≤ g by omega) h
        omega
    · intro hn
      have := Int.mul_neg_of_pos_of_neg (show (0 : Int) < g by omega) hn
      omega
  simp only [hs]
  rcases Int.lt_trichotomy d 0 with hd | hd | hd
  · rw [Int.sign_eq_neg_one_of_neg hd]
    by_cases hk0 : k < 0
    · rw [if_pos (by omega)]; omega
    · rw [if_neg (by omega)]; omega
  · omega
  · rw [Int.sign_eq_one_of_pos hd]
    by_cases hk0 : k < 0
    · rw [if_neg (by omega)]; omega
    · rw [if_pos (by omega)]; omega

theorem fits_mk {n d : Int} (h : d ≠ 0) : Fits (Rat.divInt n d) ↔ aN n d ≤ 2147483647 ∧ aD n d ≤ 2147483647 := by
  unfold Fits
  rw [den_mk h, num_mk h]
  split <;> simp

/-- Make, in its own steps -/
theorem mk_steps {n d : Int} (h : d ≠ 0) : mk n d =
    if aN n d ≤ 2147483647 ∧ aD n d ≤ 2147483647 then (if (n < 0) ↔ (d < 0) then ⟨aN n d, aD n d, 0⟩ else ⟨-(aN n d : Int), aD n d, 0⟩) else ⟨0, 0, 3⟩ := by
  rw [mk_eq h, fit]
  by_cases hf : Fits (Rat.divInt n d)
  · rw [if_pos hf, if_pos ((fits_mk h).1 hf), den_mk h, num_mk h]; split <;> rfl
  · rw [if_neg hf, if_neg (fun h2 => hf ((fits_mk h).2 h2))]

/-- with a divisor greater than 0: quotients that are cut off -/
theorem mk_lowest {n d : Int} (h : 0 < d) : (Rat.divInt n d).num = n.tdiv (Int.gcd n d) ∧ ((Rat.divInt n d).den : Int) = d.tdiv (Int.gcd n d) := by
  have hg1 : (Int.gcd n d : Int) ∣ n := Int.gcd_dvd_left ..
  have hg2 : (Int.gcd n d : Int) ∣ d := Int.gcd_dvd_right ..
  rw [Rat.num_divInt, Rat.den_divInt, if_neg (by omega), Int.sign_eq_one_of_pos h, Int.gcd_comm d n]
  refine ⟨by rw [Int.one_mul, Int.tdiv_eq_ediv_of_dvd hg1], ?_⟩
  rw [Int.tdiv_eq_ediv_of_dvd hg2]
  rw [Int.natCast_ediv]
  congr 1; omega

theorem mk_low {n d : Int} (h : 0 < d) : mk n d =
    if d.tdiv (Int.gcd n d) ≤ 2147483647 ∧ -2147483647 ≤ n.tdiv (Int.gcd n d) ∧ n.tdiv (Int.gcd n d) ≤ 2147483647 then ⟨n.tdiv (Int.gcd n d), d.tdiv (Int.gcd n d), 0⟩ else ⟨0, 0, 3⟩ := by
  have ⟨a, b⟩ := mk_lowest (n := n) h
  rw [mk_eq (by omega), fit, ← a, ← b]
  by_cases hf : Fits (Rat.divInt n d)
  · rw [if_pos hf, if_pos (by unfold Fits at hf; omega)]
  · rw [if_neg hf, if_neg (by unfold Fits at hf; omega)]

theorem mk_neg (n d : Int) : mk (-n) (-d) = mk n d := by
  unfold mk; rw [Rat.neg_divInt_neg]; by_cases h : d = 0 <;> simp [h]

theorem mk_scale {n d k : Int} (hk : k ≠ 0) : mk (k * n) (k * d) = mk n d := by
  unfold mk; rw [Rat.divInt_mul_left hk]
  by_cases h : d = 0
  · simp [h]
  · rw [if_neg (Int.mul_ne_zero hk h), if_neg h]

theorem gcd_tmod (n d : Int) : Int.gcd (n.tmod d) d = Int.gcd n d := by
  have h1 : n.tmod d = n - d * n.tdiv d := by have := Int.mul_tdiv_add_tmod n d; omega
  rw [h1]
  have : n - d * n.tdiv d = n + d * (-(n.tdiv d)) := by grind
  rw [this, Int.mul_comm d, Int.gcd_add_mul_right_left]


/-! ### the quotients rounded down and up -/
theorem fl_tdiv {n d : Int} (h : 0 < d) : n / d = if n.tmod d < 0 then n.tdiv d - 1 else n.tdiv d := by
  have e1 := Int.mul_tdiv_add_tmod n d
  have e2 := Int.mul_ediv_add_emod n d
  have b1 := Int.emod_nonneg n (show d ≠ 0 by omega)
  have b2 := Int.emod_lt_of_pos n h
  have b3 : n.tmod d < d := Int.tmod_lt_of_pos n h
  have b4 : -d < n.tmod d := by have := Int.lt_tmod_of_pos n h; omega
  generalize n.tmod d = r at *
  generalize n.tdiv d = q at *
  generalize n / d = q' at *
  generalize n % d = r' at *
  have h3 : d * (q' - q) = r - r' := by grind
  split
  · have : q' - q = -1 := by
      rcases Int.lt_trichotomy (q' - q) (-1) with h5 | h5 | h5
      · have := Int.mul_le_mul_of_nonneg_left (show q' - q ≤ -2 by omega) (show 0 ≤ d by omega); omega
      · exact h5
      · have := Int.mul_le_mul_of_nonneg_left (show 0 ≤ q' - q by omega) (show 0 ≤ d by omega); omega
    omega
  · have : q' - q = 0 := by
      rcases Int.lt_trichotomy (q' - q) 0 with h5 | h5 | h5
      · have := Int.mul_le_mul_of_nonneg_left (show q' - q ≤ -1 by omega) (show 0 ≤ d by omega); omega
      · exact h5
      · have := Int.mul_le_mul_of_nonneg_left (show 1 ≤ q' - q by omega) (show 0 ≤ d by omega); omega
    omega

def cl (n d : Int) : Int := -((-n) / d)

theorem fl_spec {n d : Int} (h : 0 < d) : d * (n / d) ≤ n ∧ n < d * (n / d) + d := by
  have e2 := Int.mul_ediv_add_emod n d
  have b1 := Int.emod_nonneg n (show d ≠ 0 by omega)
  have b2 := Int.emod_lt_of_pos n h
  omega
theorem cl_spec {n d : Int} (h : 0 < d) : n ≤ d * cl n d ∧ d * cl n d < n + d := by
  have := fl_spec (n := -n) h
  unfold cl
  rw [Int.mul_neg]; omega

theorem cl_tdiv {n d : Int} (h : 0 < d) : cl n d = if 0 < n.tmod d then n.tdiv d + 1 else n.tdiv d := by
  unfold cl
  rw [fl_tdiv h, Int.neg_tdiv, Int.neg_tmod]
  by_cases h2 : 0 < n.tmod d
  · rw [if_pos (by omega), if_pos h2]; omega
  · rw [if_neg (by omega), if_neg h2]; omega

theorem mul_lt_cancel {d x y : Int} (h : 0 < d) : d * x < d * y ↔ x < y := Int.mul_lt_mul_left h
theorem mul_le_cancel {d x y : Int} (h : 0 < d) : d * x ≤ d * y ↔ x ≤ y := Int.mul_le_mul_left h

theorem cl_le {n d k : Int} (h : 0 < d) : cl n d ≤ k ↔ n ≤ k * d := by
  have := cl_spec (n := n) h
  constructor
  · intro h2
    have := (mul_le_cancel h).2 h2
    grind
  · intro h2
    have : d * cl n d < d * (k + 1) := by grind
    have := (mul_lt_cancel h).1 this
    omega
theorem le_fl {n d k : Int} (h : 0 < d) : k ≤ n / d ↔ k * d ≤ n := Int.le_ediv_iff_mul_le h

/-! ### the simplest number of an interval of positive numbers -/
theorem spl_dec {a b c d : Int} (hb : 0 < b) (hd : 0 < d) (hn : ¬ cl a b * d ≤ c) : c - a / b * d < d ∧ a - a / b * b < b := by
  have h1 := fl_spec (n := a) hb
  have h2 := cl_spec (n := a) hb
  have h3 : cl a b < a / b + 2 := by
    have : b * cl a b < b * (a / b + 2) := by grind
    exact (mul_lt_cancel hb).1 this
  have h4 : cl a b * d ≤ (a / b + 1) * d := Int.mul_le_mul_of_nonneg_right (by omega) (by omega)
  have h5 : (a / b + 1) * d = a / b * d + d := by grind
  refine ⟨by omega, by grind⟩

def spl (a b c d : Int) : Int × Int :=
  if _h : 0 < b ∧ 0 < d ∧ 0 < a ∧ a * d ≤ c * b then
    if _hn : cl a b * d ≤ c then (cl a b, 1)
    else
      let r := spl d (c - a / b * d) b (a - a / b * b)
      (a / b * r.1 + r.2, r.1)
  else (1, 1)
termination_by (b + d).toNat
decreasing_by
  have := spl_dec _h.1 _h.2.1 _hn
  omega

/-- what the two ends of the next interval are -/
theorem spl_next {a b c d : Int} (hb : 0 < b) (hd : 0 < d) (ha : 0 < a) (hac : a * d ≤ c * b) (hn : ¬ cl a b * d ≤ c) :
    0 < c - a / b * d ∧ 0 < a - a / b * b ∧ d * (a - a / b * b) ≤ b * (c - a / b * d) ∧ cl a b = a / b + 1 ∧ c / d = a / b ∧ 0 ≤ a / b := by
  have h1 := fl_spec (n := a) hb
  have h2 := cl_spec (n := a) hb
  have h0 : 0 ≤ a / b := Int.ediv_nonneg (by omega) (by omega)
  have hlt : a / b < cl a b := by
    rcases Int.lt_or_le (a / b) (cl a b) with h | h
    · exact h
    · exfalso
      have h3 : b * cl a b ≤ b * (a / b) := (mul_le_cancel hb).2 h
      have h4 : a = b * (a / b) := by omega
      have h5 : cl a b = a / b := by
        have : b * (a / b) ≤ b * cl a b := by omega
        have := (mul_le_cancel hb).1 this
        omega
      apply hn
      rw [h5]
      have h6 : b * (a / b * d) = a * d := by rw [← Int.mul_assoc, ← h4]
      have : b * (a / b * d) ≤ b * c := by rw [h6, Int.mul_comm b c]; exact hac
      exact (mul_le_cancel hb).1 this
  have h3 : cl a b < a / b + 2 := by
    have : b * cl a b < b * (a / b + 2) := by grind
    exact (mul_lt_cancel hb).1 this
  have hc : cl a b = a / b + 1 := by omega
  have hr : 0 < a - a / b * b := by
    rcases Int.lt_or_le 0 (a - a / b * b) with h | h
    · exact h
    · exfalso
      have h4 : a = b * (a / b) := by grind
      have : cl a b ≤ a / b := (cl_le hb).2 (by grind)
      omega
  have h5 : d * (a - a / b * b) ≤ b * (c - a / b * d) := by grind
  have h6 : 0 < c - a / b * d := by
    rcases Int.lt_or_le 0 (c - a / b * d) with h | h
    · exact h
    · exfalso
      have h7 : b * (c - a / b * d) ≤ 0 := Int.mul_nonpos_of_nonneg_of_nonpos (by omega) h
      have h8 : 0 < d * (a - a / b * b) := Int.mul_pos hd hr
      omega
  refine ⟨h6, hr, h5, hc, ?_, h0⟩
  have h9 : a / b ≤ c / d := (le_fl hd).2 (by omega)
  have h10 : ¬ a / b + 1 ≤ c / d := by
    intro h11
    have := (le_fl hd).1 h11
    rw [hc] at hn
    exact hn this
  omega

theorem spl_eq {a b c d : Int} (hb : 0 < b) (hd : 0 < d) (ha : 0 < a) (hac : a * d ≤ c * b) :
    spl a b c d = if cl a b * d ≤ c then (cl a b, 1) else
      (a / b * (spl d (c - a / b * d) b (a - a / b * b)).1 + (spl d (c - a / b * d) b (a - a / b * b)).2, (spl d (c - a / b * d) b (a - a / b * b)).1) := by
  rw [spl, dif_pos ⟨hb, hd, ha, hac⟩]
  split <;> simp_all

/-- the simplest number lies between the ends, is in lowest terms, and is least in both parts -/
theorem spl_spec (k : Nat) : ∀ (a b c d : Int), (b + d).toNat ≤ k → 0 < b → 0 < d → 0 < a → a * d ≤ c * b →
    1 ≤ (spl a b c d).1 ∧ 1 ≤ (spl a b c d).2 ∧ a * (spl a b c d).2 ≤ (spl a b c d).1 * b ∧ (spl a b c d).1 * d ≤ c * (spl a b c d).2 ∧
    Int.gcd (spl a b c d).1 (spl a b c d).2 = 1 ∧
    (∀ u v : Int, 1 ≤ v → a * v ≤ u * b → u * d ≤ c * v → (spl a b c d).2 ≤ v ∧ (spl a b c d).1 ≤ u) := by
  induction k with
  | zero => intro a b c d h1 h2 h3; omega
  | succ k ih =>
    intro a b c d hk hb hd ha hac
    rw [spl_eq hb hd ha hac]
    have h1 := cl_spec (n := a) hb
    by_cases hn : cl a b * d ≤ c
    · rw [if_pos hn]
      have hp : 1 ≤ cl a b := by
        have : b * 0 < b * cl a b := by omega
        have := (mul_lt_cancel hb).1 this
        omega
      refine ⟨hp, by simp, by grind, by grind, by simp, ?_⟩
      intro u v hv h2 h3
      refine ⟨hv, ?_⟩
      apply (cl_le hb).2
      have : a * 1 ≤ a * v := Int.mul_le_mul_of_nonneg_left hv (by omega)
      omega
    · rw [if_neg hn]
      obtain ⟨g1, g2, g3, g4, g5, g6⟩ := spl_next hb hd ha hac hn
      have gd := spl_dec hb hd hn
      have := ih d (c - a / b * d) b (a - a / b * b) (by omega) g1 g2 hd g3
      generalize spl d (c - a / b * d) b (a - a / b * b) = r at *
      obtain ⟨p, q⟩ := r
      obtain ⟨r1, r2, r3, r4, r5, r6⟩ := this
      simp only at r1 r2 r3 r4 r5 r6 ⊢
      generalize a / b = f at *
      have hfp : 0 ≤ f * p := Int.mul_nonneg g6 (by omega)
      refine ⟨by omega, r1, by grind, by grind, ?_, ?_⟩
      · rw [Int.gcd_mul_right_add_left, Int.gcd_comm]; exact r5
      · intro u v hv h2 h3
        -- u / v lies between f and f + 1: v / (u - f v) lies between the next ends
        have hu : 0 < u - f * v := by
          rcases Int.lt_or_le 0 (u - f * v) with h | h
          · exact h
          · exfalso
            have h7 : b * (u - f * v) ≤ 0 := Int.mul_nonpos_of_nonneg_of_nonpos (by omega) h
            have h8 : 0 < v * (a - f * b) := Int.mul_pos (by omega) g2
            grind
        have := r6 v (u - f * v) (by omega) (by grind) (by grind)
        refine ⟨this.2, ?_⟩
        have h9 : f * p ≤ f * v := Int.mul_le_mul_of_nonneg_left this.2 g6
        omega


def ab (x : Int) : Int := if x < 0 then -x else x

/-- r/s is the number with a denominator of at most m that is closest to N/D; the lesser one of two -/
def BestOf (N D m r s : Int) : Prop :=
  1 ≤ s ∧ s ≤ m ∧ Int.gcd r s = 1 ∧
  ∀ u v : Int, 1 ≤ v → v ≤ m → ab (N * s - r * D) * v ≤ ab (N * v - u * D) * s ∧
    (ab (N * s - r * D) * v = ab (N * v - u * D) * s → r * v ≤ u * s)

theorem dvd_cop {a b c : Int} (h : a ∣ b * c) (hg : Int.gcd a b = 1) : a.natAbs ∣ c.natAbs := by
  have h2 : a.natAbs ∣ b.natAbs * c.natAbs := by rw [← Int.natAbs_mul]; exact Int.natAbs_dvd_natAbs.2 h
  have h3 : Nat.Coprime a.natAbs b.natAbs := by rw [Int.gcd_eq_natAbs_gcd_natAbs] at hg; exact hg
  exact h3.dvd_of_dvd_mul_left h2

theorem gcd_one_cross {r s u v : Int} (h1 : Int.gcd r s = 1) (h2 : Int.gcd u v = 1) (hs : 1 ≤ s) (hv : 1 ≤ v) (h : r * v = u * s) : r = u ∧ s = v := by
  have e1 : s.natAbs ∣ v.natAbs := by
    have : s ∣ r * v := ⟨u, by rw [h, Int.mul_comm]⟩
    have h5 : Int.gcd s r = 1 := by rw [Int.gcd_comm]; exact h1
    exact dvd_cop this h5
  have e2 : v.natAbs ∣ s.natAbs := by
    have : v ∣ u * s := ⟨r, by rw [← h, Int.mul_comm]⟩
    have h5 : Int.gcd v u = 1 := by rw [Int.gcd_comm]; exact h2
    exact dvd_cop this h5
  have e3 := Nat.dvd_antisymm e1 e2
  have e4 : s = v := by omega
  subst e4
  refine ⟨?_, rfl⟩
  have : s * r = s * u := by rw [Int.mul_comm s r, h, Int.mul_comm]
  exact Int.eq_of_mul_eq_mul_left (by omega) this

theorem best_unique {N D m r s u v : Int} (h1 : BestOf N D m r s) (h2 : BestOf N D m u v) : r = u ∧ s = v := by
  obtain ⟨a1, a2, a3, a4⟩ := h1
  obtain ⟨b1, b2, b3, b4⟩ := h2
  have c1 := a4 u v b1 b2
  have c2 := b4 r s a1 a2
  have e : ab (N * s - r * D) * v = ab (N * v - u * D) * s := by omega
  have c3 := c1.2 e
  have c4 := c2.2 (by omega)
  exact gcd_one_cross a3 b3 a1 b1 (by omega)

theorem ab_nonneg (x : Int) : 0 ≤ ab x := by unfold ab; split <;> omega
theorem ab_pos {x : Int} (h : 0 ≤ x) : ab x = x := by unfold ab; rw [if_neg (by omega)]
theorem ab_neg {x : Int} (h : x ≤ 0) : ab x = -x := by unfold ab; split <;> omega

/-- a number with a small denominator is its own best -/
theorem best_self {N D m : Int} (hD : 1 ≤ D) (hm : D ≤ m) (hg : Int.gcd N D = 1) : BestOf N D m N D := by
  refine ⟨hD, hm, hg, ?_⟩
  intro u v hv _
  have e : N * D - N * D = 0 := by omega
  rw [e, ab_pos (Int.le_refl 0)]
  have := ab_nonneg (N * v - u * D)
  have h2 : 0 ≤ ab (N * v - u * D) * D := Int.mul_nonneg this (by omega)
  refine ⟨by omega, ?_⟩
  intro h
  have h3 : ab (N * v - u * D) = 0 := by
    have h4 : ab (N * v - u * D) * D = 0 := by omega
    rcases Int.mul_eq_zero.1 h4 with h5 | h5 <;> omega
  have h4 : N * v - u * D = 0 := by unfold ab at h3; split at h3 <;> omega
  omega

/-- nothing with a denominator of at most m lies strictly between two neighbours -/
theorem between {p q r s m u v : Int} (h1 : r * q - p * s = 1) (hq : 1 ≤ q) (hs : 1 ≤ s) (hm : m < q + s) (_hv : 1 ≤ v) (hvm : v ≤ m) :
    u * q ≤ p * v ∨ r * v ≤ u * s := by
  rcases Int.lt_or_le (p * v) (u * q) with h | h
  · right
    rcases Int.lt_or_le (u * s) (r * v) with h2 | h2
    · exfalso
      have e : v = q * (r * v - u * s) + s * (u * q - p * v) := by grind
      have a1 : q * 1 ≤ q * (r * v - u * s) := Int.mul_le_mul_of_nonneg_left (by omega) (by omega)
      have a2 : s * 1 ≤ s * (u * q - p * v) := Int.mul_le_mul_of_nonneg_left (by omega) (by omega)
      omega
    · exact h2
  · exact .inl h

theorem best_low {N D m p q r s : Int} (hD : 1 ≤ D) (h1 : r * q - p * s = 1) (hq : 1 ≤ q) (hs : 1 ≤ s) (hqm : q ≤ m) (hm : m < q + s)
    (hl : p * D ≤ N * q) (hr : N * s ≤ r * D) (hc : (N * q - p * D) * s ≤ (r * D - N * s) * q) : BestOf N D m p q := by
  refine ⟨hq, hqm, ?_, ?_⟩
  · have : (Int.gcd p q : Int) ∣ 1 := by
      rw [← h1]
      exact Int.dvd_sub (Int.dvd_mul_of_dvd_right (Int.gcd_dvd_right ..)) (Int.dvd_mul_of_dvd_left (Int.gcd_dvd_left ..))
    have := Int.natAbs_dvd_natAbs.2 this
    simpa using this
  · intro u v hv hvm
    rw [ab_pos (show 0 ≤ N * q - p * D by omega)]
    rcases between (u := u) h1 hq hs hm hv hvm with h | h
    · have e1 : 0 ≤ D * (p * v - u * q) := Int.mul_nonneg (by omega) (by omega)
      have e2 : 0 ≤ q * (N * v - u * D) := by
        have : 0 ≤ v * (N * q - p * D) := Int.mul_nonneg (by omega) (by omega)
        grind
      have e3 : 0 ≤ N * v - u * D := by
        have : q * 0 ≤ q * (N * v - u * D) := by omega
        exact (mul_le_cancel (by omega)).1 this
      rw [ab_pos e3]
      refine ⟨by grind, ?_⟩
      intro h2
      have : D * (p * v - u * q) = 0 := by grind
      rcases Int.mul_eq_zero.1 this with h5 | h5 <;> omega
    · have e1 : 0 ≤ D * (u * s - r * v) := Int.mul_nonneg (by omega) (by omega)
      have e2 : (r * D - N * s) * v ≤ (u * D - N * v) * s := by grind
      have e3 : 0 ≤ (r * D - N * s) * v := Int.mul_nonneg (by omega) (by omega)
      have e4 : 0 ≤ u * D - N * v := by
        have : s * 0 ≤ s * (u * D - N * v) := by grind
        exact (mul_le_cancel (by omega)).1 this
      rw [ab_neg (show N * v - u * D ≤ 0 by omega)]
      have e5 : (N * q - p * D) * s * v ≤ (r * D - N * s) * q * v := Int.mul_le_mul_of_nonneg_right hc (by omega)
      have e6 : q * ((r * D - N * s) * v) ≤ q * ((u * D - N * v) * s) := Int.mul_le_mul_of_nonneg_left e2 (by omega)
      have e7 : s * ((N * q - p * D) * v) ≤ s * ((u * D - N * v) * q) := by grind
      have e8 := (mul_le_cancel (show 0 < s by omega)).1 e7
      refine ⟨by grind, ?_⟩
      intro _
      -- p/q is at most N/D, u/v at least
      have e9 : 0 ≤ v * (N * q - p * D) := Int.mul_nonneg (by omega) (by omega)
      have e10 : 0 ≤ q * (u * D - N * v) := Int.mul_nonneg (by omega) (by omega)
      have e11 : D * (p * v) ≤ D * (u * q) := by grind
      exact (mul_le_cancel (by omega)).1 e11

theorem best_high {N D m p q r s : Int} (hD : 1 ≤ D) (h1 : r * q - p * s = 1) (hq : 1 ≤ q) (hs : 1 ≤ s) (hsm : s ≤ m) (hm : m < q + s)
    (hl : p * D ≤ N * q) (hr : N * s ≤ r * D) (hc : (r * D - N * s) * q < (N * q - p * D) * s) : BestOf N D m r s := by
  refine ⟨hs, hsm, ?_, ?_⟩
  · have : (Int.gcd r s : Int) ∣ 1 := by
      rw [← h1]
      exact Int.dvd_sub (Int.dvd_mul_of_dvd_left (Int.gcd_dvd_left ..)) (Int.dvd_mul_of_dvd_right (Int.gcd_dvd_right ..))
    have := Int.natAbs_dvd_natAbs.2 this
    simpa using this
  · intro u v hv hvm
    rw [ab_neg (show N * s - r * D ≤ 0 by omega)]
    rcases between (u := u) h1 hq hs hm hv hvm with h | h
    · have e1 : 0 ≤ D * (p * v - u * q) := Int.mul_nonneg (by omega) (by omega)
      have e2 : (N * q - p * D) * v ≤ (N * v - u * D) * q := by grind
      have e3 : 0 ≤ (N * q - p * D) * v := Int.mul_nonneg (by omega) (by omega)
      have e4 : 0 ≤ N * v - u * D := by
        have : q * 0 ≤ q * (N * v - u * D) := by grind
        exact (mul_le_cancel (by omega)).1 this
      rw [ab_pos e4]
      have e5 : v * ((r * D - N * s) * q) < v * ((N * q - p * D) * s) := (mul_lt_cancel (by omega)).2 hc
      have e6 : s * ((N * q - p * D) * v) ≤ s * ((N * v - u * D) * q) := Int.mul_le_mul_of_nonneg_left e2 (by omega)
      have e7 : q * ((r * D - N * s) * v) < q * ((N * v - u * D) * s) := by grind
      have e8 := (mul_lt_cancel (show 0 < q by omega)).1 e7
      have e9 : -(N * s - r * D) * v = (r * D - N * s) * v := by grind
      rw [e9]
      refine ⟨by omega, by omega⟩
    · have e1 : 0 ≤ D * (u * s - r * v) := Int.mul_nonneg (by omega) (by omega)
      have e2 : (r * D - N * s) * v ≤ (u * D - N * v) * s := by grind
      have e3 : 0 ≤ (r * D - N * s) * v := Int.mul_nonneg (by omega) (by omega)
      have e4 : 0 ≤ u * D - N * v := by
        have : s * 0 ≤ s * (u * D - N * v) := by grind
        exact (mul_le_cancel (by omega)).1 this
      rw [ab_neg (show N * v - u * D ≤ 0 by omega)]
      exact ⟨by grind, fun _ => h⟩


/-! ### continued fractions -/
def cf (n d : Int) : List Int := if _h : 0 < d then n / d :: cf d (n % d) else []
termination_by d.toNat
decreasing_by
  have := Int.emod_lt_of_pos n _h
  have := Int.emod_nonneg n (show d ≠ 0 by omega)
  omega

theorem cf_pos {n d : Int} (h : 0 < d) : cf n d = n / d :: cf d (n % d) := by rw [cf, dif_pos h]
theorem cf_zero (n : Int) : cf n 0 = [] := by rw [cf, dif_neg (by omega)]

def fb : Nat → Int
  | 0 => 0
  | 1 => 1
  | k + 2 => fb (k + 1) + fb k

theorem fb_le (k : Nat) : (∀ n d : Int, 0 ≤ d → k ≤ (cf n d).length → fb k ≤ d) ∧ (∀ n d : Int, 0 ≤ d → k + 1 ≤ (cf n d).length → fb (k + 1) ≤ d) := by
  induction k with
  | zero =>
    refine ⟨fun n d h _ => h, fun n d h hl => ?_⟩
    rcases Int.lt_or_le 0 d with h1 | h1
    · exact h1
    · obtain rfl : d = 0 := by omega
      rw [cf_zero] at hl; simp at hl
  | succ k ih =>
    refine ⟨ih.2, fun n d h hl => ?_⟩
    rcases Int.lt_or_le 0 d with h1 | h1
    · rw [cf_pos h1] at hl
      have b1 := Int.emod_lt_of_pos n h1
      have b2 := Int.emod_nonneg n (show d ≠ 0 by omega)
      have i1 := ih.2 d (n % d) b2 (by simp at hl; omega)
      rcases Int.lt_or_le 0 (n % d) with h2 | h2
      · rw [cf_pos h2] at hl
        have b3 := Int.emod_nonneg d (show n % d ≠ 0 by omega)
        have i2 := ih.1 (n % d) (d % (n % d)) b3 (by simp at hl; omega)
        have e := Int.mul_ediv_add_emod d (n % d)
        have q1 : 1 ≤ d / (n % d) := (le_fl h2).2 (by omega)
        have q2 : (n % d) * 1 ≤ (n % d) * (d / (n % d)) := Int.mul_le_mul_of_nonneg_left q1 (by omega)
        show fb (k + 1) + fb k ≤ d
        omega
      · have : n % d = 0 := by omega
        rw [this, cf_zero] at hl
        simp at hl
    · obtain rfl : d = 0 := by omega
      rw [cf_zero] at hl; simp at hl

theorem cf_len {n d : Int} (h0 : 0 ≤ d) (h : d ≤ 2147483647) : (cf n d).length ≤ 50 := by
  rcases Nat.lt_or_ge 50 (cf n d).length with h1 | h1
  · have := (fb_le 51).1 n d h0 h1
    have h2 : fb 51 = 20365011074 := by simp [fb]
    omega
  · exact h1

/-- the number of a continued fraction, as a pair that is not reduced (it is, all the same) -/
def K : List Int → Int × Int
  | [] => (1, 0)
  | t :: ts => (t * (K ts).1 + (K ts).2, (K ts).1)

theorem K_cf (k : Nat) : ∀ n d : Int, 0 ≤ d → d.toNat ≤ k → 0 < n ∨ 0 < d → (K (cf n d)).1 * Int.gcd n d = n ∧ (K (cf n d)).2 * Int.gcd n d = d := by
  induction k with
  | zero =>
    intro n d h hk hn
    obtain rfl : d = 0 := by omega
    rw [cf_zero]
    simp [K]; omega
  | succ k ih =>
    intro n d h hk hn
    rcases Int.lt_or_le 0 d with h1 | h1
    · have b1 := Int.emod_lt_of_pos n h1
      have b2 := Int.emod_nonneg n (show d ≠ 0 by omega)
      have i := ih d (n % d) b2 (by omega) (.inl h1)
      have e := Int.mul_ediv_add_emod n d
      have eg : Int.gcd d (n % d) = Int.gcd n d := by
        have h3 : n % d = n + d * (-(n / d)) := by grind
        rw [h3, Int.gcd_add_mul_left_right, Int.gcd_comm]
      rw [eg] at i
      rw [cf_pos h1]
      simp only [K]
      refine ⟨?_, i.1⟩
      rw [Int.add_mul, Int.mul_assoc, i.1, i.2, Int.mul_comm]; exact e
    · obtain rfl : d = 0 := by omega
      rw [cf_zero]
      simp [K]; omega

theorem K_pos : ∀ l : List Int, (∀ t ∈ l, 1 ≤ t) → 1 ≤ (K l).1 ∧ 0 ≤ (K l).2 ∧ (K l).2 ≤ (K l).1
  | [], _ => by simp [K]
  | t :: ts, h => by
    have i := K_pos ts (fun x hx => h x (List.mem_cons_of_mem _ hx))
    have ht := h t List.mem_cons_self
    have : 1 * (K ts).1 ≤ t * (K ts).1 := Int.mul_le_mul_of_nonneg_right ht (by omega)
    simp only [K]; omega

theorem K_cop : ∀ l : List Int, Int.gcd (K l).1 (K l).2 = 1
  | [] => by simp [K]
  | t :: ts => by
    simp only [K]
    rw [Int.gcd_mul_right_add_left, Int.gcd_comm]; exact K_cop ts

theorem cf_tail (k : Nat) : ∀ n d : Int, 0 ≤ d → d.toNat ≤ k → d < n → ∀ t ∈ cf n d, 1 ≤ t := by
  induction k with
  | zero => intro n d h hk hn; obtain rfl : d = 0 := by omega
            simp [cf_zero]
  | succ k ih =>
    intro n d h hk hn
    rcases Int.lt_or_le 0 d with h1 | h1
    · have b1 := Int.emod_lt_of_pos n h1
      have b2 := Int.emod_nonneg n (show d ≠ 0 by omega)
      rw [cf_pos h1]
      intro t ht
      rcases List.mem_cons.1 ht with rfl | ht
      · exact (le_fl h1).2 (by omega)
      · exact ih d (n % d) b2 (by omega) b1 t ht
    · obtain rfl : d = 0 := by omega
      simp [cf_zero]

theorem cf_tail1 {n d : Int} (h : 0 < d) : ∃ t ts, cf n d = t :: ts ∧ ∀ x ∈ ts, 1 ≤ x := by
  have b1 := Int.emod_lt_of_pos n h
  have b2 := Int.emod_nonneg n (show d ≠ 0 by omega)
  exact ⟨_, _, cf_pos h, cf_tail _ d (n % d) b2 (Nat.le_refl _) b1⟩

/-- the terms of the number of a list of terms -/
theorem cf_K : ∀ (ts : List Int) (t : Int), (∀ x ∈ ts, 1 ≤ x) → (∀ h : ts ≠ [], 2 ≤ ts.getLast h) → cf (K (t :: ts)).1 (K (t :: ts)).2 = t :: ts ∧ (ts ≠ [] → (K ts).2 < (K ts).1)
  | [], t, _, _ => by
    refine ⟨?_, fun h => (h rfl).elim⟩
    simp only [K]
    rw [cf_pos (by omega)]
    simp [cf_zero]
  | x :: xs, t, h, hl => by
    have hx := h x List.mem_cons_self
    have hxs : ∀ y ∈ xs, 1 ≤ y := fun y hy => h y (List.mem_cons_of_mem _ hy)
    have i := cf_K xs x hxs (fun hne => by have := hl (by simp); rwa [List.getLast_cons hne] at this)
    have p := K_pos (x :: xs) h
    have p2 := K_pos xs hxs
    have hlt : (K (x :: xs)).2 < (K (x :: xs)).1 := by
      by_cases hne : xs = []
      · subst hne
        have := hl (by simp)
        simp only [List.getLast_singleton] at this
        simp only [K]; omega
      · have := i.2 hne
        simp only [K]
        have h5 : 1 * (K xs).1 ≤ x * (K xs).1 := Int.mul_le_mul_of_nonneg_right hx (by omega)
        have h6 : 0 < (K xs).2 := by
          cases xs with
          | nil => exact (hne rfl).elim
          | cons y ys => have := K_pos ys (fun z hz => hxs z (List.mem_cons_of_mem _ hz)); simp only [K]; omega
        omega
    refine ⟨?_, fun _ => hlt⟩
    have e1 : (t * (K (x :: xs)).1 + (K (x :: xs)).2) / (K (x :: xs)).1 = t := by
      rw [Int.add_comm, Int.add_mul_ediv_right _ _ (by omega), Int.ediv_eq_zero_of_lt p.2.1 hlt]; omega
    have e2 : (t * (K (x :: xs)).1 + (K (x :: xs)).2) % (K (x :: xs)).1 = (K (x :: xs)).2 := by
      rw [Int.add_comm, Int.add_mul_emod_self_right, Int.emod_eq_of_lt p.2.1 hlt]
    show cf (t * (K (x :: xs)).1 + (K (x :: xs)).2) (K (x :: xs)).1 = _
    rw [cf_pos (by omega), e1, e2, i.1]

def foldS (l : List Int) : Num :=
  if 50 < l.length then ⟨0, 0, 2⟩ else
  if l = [] then ⟨0, 0, 1⟩ else
  if ∃ x ∈ l.tail, x < 1 then ⟨0, 0, 1⟩ else mk (K l).1 (K l).2

theorem K_vld {n d : Int} (h : vldP n d) : K (cf n d) = (n, d) := by
  obtain ⟨h1, _, _, _, h5⟩ := h
  have := K_cf _ n d (by omega) (Nat.le_refl _) (.inr (by omega))
  rw [h5] at this
  exact Prod.ext (by simpa using this.1) (by simpa using this.2)

theorem fold_cf {n d : Int} (h : vldP n d) : foldS (cf n d) = ⟨n, d, 0⟩ := by
  have hk := K_vld h
  have h' := h
  obtain ⟨h1, h2, _, _, h5⟩ := h'
  obtain ⟨t, ts, e, hts⟩ := cf_tail1 (n := n) (d := d) (by omega)
  have hl := cf_len (n := n) (d := d) (by omega) h2
  unfold foldS
  rw [if_neg (by omega), if_neg (by rw [e]; simp), hk, e, if_neg, mk_eq (by omega), fit_of_vld h]
  rintro ⟨x, hx, hx1⟩
  have := hts x hx
  omega

theorem cf_fold {l : List Int} {r : Num} (h : foldS l = r) (he : r.e = 0) (hl : l.length = 1 ∨ ∃ h : l ≠ [], 2 ≤ l.getLast h) : cf r.n r.d = l := by
  subst h
  unfold foldS at he ⊢
  by_cases h1 : 50 < l.length
  · rw [if_pos h1] at he; simp at he
  by_cases h2 : l = []
  · rw [if_neg h1, if_pos h2] at he; simp at he
  by_cases h3 : ∃ x ∈ l.tail, x < 1
  · rw [if_neg h1, if_neg h2, if_pos h3] at he; simp at he
  rw [if_neg h1, if_neg h2, if_neg h3] at he ⊢
  cases l with
  | nil => exact (h2 rfl).elim
  | cons t ts =>
    have hts : ∀ x ∈ ts, 1 ≤ x := by
      intro x hx
      rcases Int.lt_or_le x 1 with h | h
      · exact (h3 ⟨x, hx, h⟩).elim
      · exact h
    have p := K_pos ts hts
    have hd : (K (t :: ts)).2 ≠ 0 := by show (K ts).1 ≠ 0; omega
    rw [mk_eq hd] at he ⊢
    have hf := fit_ok he
    have hv : vldP (K (t :: ts)).1 (K (t :: ts)).2 := by
      have g := K_cop (t :: ts)
      have hq := hf.1
      rw [fits_mk hd] at hq
      unfold aN aD at hq
      rw [Int.gcd_eq_natAbs_gcd_natAbs] at g
      rw [g] at hq
      have : 1 ≤ (K (t :: ts)).2 := p.1
      refine ⟨this, by omega, by omega, by omega, by rw [Int.gcd_eq_natAbs_gcd_natAbs]; exact g⟩
    rw [fit_of_vld hv]
    refine (cf_K ts t hts ?_).1
    intro hne
    rcases hl with h5 | ⟨h5, h6⟩
    · simp at h5; exact (hne h5).elim
    · rwa [List.getLast_cons hne] at h6


theorem den_pos (A : Rat) : (0 : Int) < A.den := by have := A.den_nz; omega
theorem dn (A : Rat) : Rat.divInt A.num (A.den : Int) = A := Rat.num_divInt_den A

theorem add_mk (A B : Rat) : mk (A.num * B.den + B.num * A.den) (A.den * B.den) = fit (A + B) := by
  have a := den_pos A; have b := den_pos B
  rw [mk_eq (Int.mul_ne_zero (by omega) (by omega)), ← Rat.divInt_add_divInt _ _ (by omega) (by omega), dn, dn]
theorem sub_mk (A B : Rat) : mk (A.num * B.den - B.num * A.den) (A.den * B.den) = fit (A - B) := by
  have a := den_pos A; have b := den_pos B
  rw [mk_eq (Int.mul_ne_zero (by omega) (by omega)), ← Rat.divInt_sub_divInt _ _ (by omega) (by omega), dn, dn]
theorem mul_mk (A B : Rat) : mk (A.num * B.num) (A.den * B.den) = fit (A * B) := by
  have a := den_pos A; have b := den_pos B
  rw [mk_eq (Int.mul_ne_zero (by omega) (by omega)), ← Rat.divInt_mul_divInt, dn, dn]
theorem div_mk (A B : Rat) (h : B.num ≠ 0) : mk (A.num * B.den) (A.den * B.num) = fit (A / B) := by
  have a := den_pos A; have b := den_pos B
  rw [mk_eq (Int.mul_ne_zero (by omega) h), ← Rat.divInt_mul_divInt, dn, ← Rat.inv_divInt, dn, Rat.div_def]

theorem fit_yes {r : Rat} (h : Fits r) : fit r = ⟨r.num, r.den, 0⟩ := by rw [fit, if_pos h]
theorem fit_no {r : Rat} (h : ¬ Fits r) : fit r = ⟨0, 0, 3⟩ := by rw [fit, if_neg h]

theorem Fits.bd {A : Rat} (h : Fits A) : -2147483647 ≤ A.num ∧ A.num ≤ 2147483647 ∧ 1 ≤ (A.den : Int) ∧ (A.den : Int) ≤ 2147483647 := by
  have := den_pos A; unfold Fits at h; omega
theorem Fits.vld {A : Rat} (h : Fits A) : vldP A.num A.den := vld_of_fit h
theorem Fits.neg {A : Rat} (h : Fits A) : Fits (-A) := by
  unfold Fits at *; rw [Rat.neg_num, Rat.neg_den]; omega

def cmpR (A B : Rat) : Int := if A < B then -1 else if B < A then 1 else 0
def cmpZ (x y : Int) : Int := if x < y then -1 else if y < x then 1 else 0
theorem cmp_mk (A B : Rat) : cmpZ (A.num * B.den) (B.num * A.den) = cmpR A B := by
  unfold cmpZ cmpR; simp only [Rat.lt_iff]
theorem cmpR_self (A : Rat) : cmpR A A = 0 := by unfold cmpR; rw [if_neg Rat.lt_irrefl, if_neg Rat.lt_irrefl]
theorem cmpR_lt {A B : Rat} : cmpR A B = -1 ↔ A < B := by
  unfold cmpR; split
  · simp [*]
  · split <;> simp [*]
theorem cmpR_neg {A B : Rat} : cmpR A B < 0 ↔ A < B := by
  unfold cmpR; split
  · simp [*]
  · split <;> simp [*]
theorem cmpR_gt {A B : Rat} : 0 < cmpR A B ↔ B < A := by
  unfold cmpR; split
  · rename_i h; have := Rat.le_of_lt h; have := Rat.not_lt.2 this; simp [*]
  · split <;> simp [*]
theorem cmpR_eq {A B : Rat} : cmpR A B = 0 ↔ A = B := by
  unfold cmpR; split
  · rename_i h; have := Rat.ne_of_lt h; simp [*]
  · split
    · rename_i h; have := Rat.ne_of_gt h; simp [*]
    · rename_i h1 h2; simp; exact Rat.le_antisymm (Rat.not_lt.1 h2) (Rat.not_lt.1 h1)
theorem cmpR_swap (A B : Rat) : cmpR A B = - cmpR B A := by
  unfold cmpR
  by_cases h1 : A < B
  · have : ¬ B < A := Rat.not_lt.2 (Rat.le_of_lt h1)
    simp [*]
  · by_cases h2 : B < A <;> simp [*]
theorem cmpR_bd (A B : Rat) : -1 ≤ cmpR A B ∧ cmpR A B ≤ 1 := by unfold cmpR; split <;> (try split) <;> omega
theorem cmpR_congr {A B C D : Rat} (h1 : A < B ↔ C < D) (h2 : B < A ↔ D < C) : cmpR A B = cmpR C D := by
  unfold cmpR; simp only [h1, h2]
theorem cmpR_add (A B C : Rat) : cmpR (A + C) (B + C) = cmpR A B := cmpR_congr Rat.add_lt_add_right Rat.add_lt_add_right
theorem cmpR_mul {A B C : Rat} (h : 0 < C) : cmpR (A * C) (B * C) = cmpR A B := cmpR_congr (Rat.mul_lt_mul_right h) (Rat.mul_lt_mul_right h)
theorem num_pos {C : Rat} : 0 < C.num ↔ 0 < C := by
  rw [Rat.lt_iff]; simp
theorem num_neg {C : Rat} : C.num < 0 ↔ C < 0 := by
  rw [Rat.lt_iff]; simp

/-- the mediant -/
def med (A B : Rat) : Rat := Rat.divInt (A.num + B.num) (A.den + B.den)
theorem med_mk (A B : Rat) : mk (A.num + B.num) (A.den + B.den) = fit (med A B) := by
  have a := den_pos A; have b := den_pos B
  rw [mk_eq (by omega)]; rfl

theorem divInt_cross {n d : Int} (h : d ≠ 0) : (Rat.divInt n d).num * d = n * (Rat.divInt n d).den := by
  have := dn (Rat.divInt n d)
  have hA := den_pos (Rat.divInt n d)
  exact (Rat.divInt_eq_divInt_iff (by omega) h).1 this

theorem lt_divInt {A : Rat} {n d : Int} (h : 0 < d) : A < Rat.divInt n d ↔ A.num * d < n * A.den := by
  have h1 := divInt_cross (n := n) (d := d) (by omega)
  have h2 := den_pos (Rat.divInt n d)
  rw [Rat.lt_iff]
  generalize (Rat.divInt n d).num = rn at *
  generalize ((Rat.divInt n d).den : Int) = rd at *
  rw [← mul_lt_cancel h, ← mul_lt_cancel (x := A.num * d) h2]
  have e1 : d * (rn * A.den) = rd * (n * A.den) := by grind
  have e2 : d * (A.num * rd) = rd * (A.num * d) := by grind
  rw [e1, e2]
theorem divInt_lt {A : Rat} {n d : Int} (h : 0 < d) : Rat.divInt n d < A ↔ n * A.den < A.num * d := by
  have h1 := divInt_cross (n := n) (d := d) (by omega)
  have h2 := den_pos (Rat.divInt n d)
  rw [Rat.lt_iff]
  generalize (Rat.divInt n d).num = rn at *
  generalize ((Rat.divInt n d).den : Int) = rd at *
  rw [← mul_lt_cancel h, ← mul_lt_cancel (y := A.num * d) h2]
  have e1 : d * (rn * A.den) = rd * (n * A.den) := by grind
  have e2 : d * (A.num * rd) = rd * (A.num * d) := by grind
  rw [e1, e2]

theorem med_lt {A B : Rat} (h : A < B) : A < med A B ∧ med A B < B := by
  have a := den_pos A; have b := den_pos B
  rw [Rat.lt_iff] at h
  unfold med
  rw [lt_divInt (by omega), divInt_lt (by omega)]
  constructor <;> grind
theorem med_gt {A B : Rat} (h : B < A) : med A B < A ∧ B < med A B := by
  have a := den_pos A; have b := den_pos B
  rw [Rat.lt_iff] at h
  unfold med
  rw [lt_divInt (by omega), divInt_lt (by omega)]
  constructor <;> grind
theorem cmpR_med {A B : Rat} (h : cmpR A B ≠ 0) : cmpR A (med A B) = cmpR A B ∧ cmpR (med A B) B = cmpR A B := by
  by_cases h1 : A < B
  · have := med_lt h1
    have n1 := Rat.not_lt.2 (Rat.le_of_lt h1)
    have n2 := Rat.not_lt.2 (Rat.le_of_lt this.1)
    have n3 := Rat.not_lt.2 (Rat.le_of_lt this.2)
    exact ⟨cmpR_congr (by simp [*]) (by simp [*]), cmpR_congr (by simp [*]) (by simp [*])⟩
  · by_cases h2 : B < A
    · have := med_gt h2
      have n2 := Rat.not_lt.2 (Rat.le_of_lt this.1)
      have n3 := Rat.not_lt.2 (Rat.le_of_lt this.2)
      exact ⟨cmpR_congr (by simp [*]) (by simp [*]), cmpR_congr (by simp [*]) (by simp [*])⟩
    · exfalso; apply h; unfold cmpR; rw [if_neg h1, if_neg h2]
theorem cmpR_trans {A B C : Rat} (h1 : cmpR A B ≤ 0) (h2 : cmpR B C ≤ 0) : cmpR A C ≤ 0 := by
  have a : A ≤ B := Rat.not_lt.1 (fun h => by have := cmpR_gt.2 h; omega)
  have b : B ≤ C := Rat.not_lt.1 (fun h => by have := cmpR_gt.2 h; omega)
  have c := Rat.le_trans a b
  rcases Int.lt_or_le 0 (cmpR A C) with h | h
  · exact (Rat.not_lt.2 c (cmpR_gt.1 h)).elim
  · exact h

/-! ### the laws of a field, as far as numbers fit -/
theorem sub_back {A B : Rat} : A + B - B = A := by rw [Rat.sub_eq_add_neg, Rat.add_assoc, Rat.add_neg_cancel, Rat.add_zero]
theorem div_back {A B : Rat} (h : B.num ≠ 0) : A * B / B = A := Rat.mul_div_cancel (fun e => h (Rat.num_eq_zero.2 e))


end Rt
