/- The plain mathematics of folding a continued fraction from its end, with stops where a number is too great. -/
import Derived.Test.YtffabmojbelaaaaDoorRt
namespace Rt

theorem mk_cop {n d : Int} (hg : Int.gcd n d = 1) (hd : 1 ≤ d) : mk n d = if d ≤ 2147483647 ∧ -2147483647 ≤ n ∧ n ≤ 2147483647 then ⟨n, d, 0⟩ else ⟨0, 0, 3⟩ := by
  rw [mk_low (by omega), hg]
  simp

theorem K_cons (t : Int) (ts : List Int) : K (t :: ts) = (t * (K ts).1 + (K ts).2, (K ts).1) := rfl
theorem K_nil : K [] = (1, 0) := rfl

theorem K_up {t : Int} {ts : List Int} (ht : 1 ≤ t) (h : ∀ x ∈ ts, 1 ≤ x) : (K ts).1 ≤ (K (t :: ts)).1 ∧ t ≤ (K (t :: ts)).1 := by
  have p := K_pos ts h
  have a : 1 * (K ts).1 ≤ t * (K ts).1 := Int.mul_le_mul_of_nonneg_right ht (by omega)
  have b : t * 1 ≤ t * (K ts).1 := Int.mul_le_mul_of_nonneg_left p.1 (by omega)
  rw [K_cons]; simp only; omega

theorem K_mono : ∀ (pre ts : List Int), (∀ x ∈ pre ++ ts, 1 ≤ x) → (K ts).1 ≤ (K (pre ++ ts)).1
  | [], _, _ => Int.le_refl _
  | x :: pre, ts, h => by
    have i := K_mono pre ts (fun y hy => h y (List.mem_cons_of_mem _ hy))
    have u := K_up (t := x) (ts := pre ++ ts) (h x List.mem_cons_self) (fun y hy => h y (List.mem_cons_of_mem _ hy))
    exact Int.le_trans i u.1

/-- what folds of the terms behind the first: the two numbers, or nothing where one is too great -/
theorem fold_big {t : Int} {ts : List Int} (hl : (t :: ts).length ≤ 50) (h : ∀ x ∈ ts, 1 ≤ x) (hb : 2147483647 < (K ts).1) : foldS (t :: ts) = ⟨0, 0, 3⟩ := by
  have p := K_pos ts h
  unfold foldS
  rw [if_neg (by omega), if_neg (by simp), if_neg (by rintro ⟨x, hx, h1⟩; have := h x hx; omega), mk_cop (K_cop _) (by show 1 ≤ (K ts).1; omega), if_neg]
  rintro ⟨h1, _⟩
  have : (K ts).1 ≤ 2147483647 := h1
  omega

theorem fold_far {t : Int} {ts : List Int} (hl : (t :: ts).length ≤ 50) (h : ∀ x ∈ ts, 1 ≤ x) (hb : t < -2147483648 ∨ 2147483647 < t) : foldS (t :: ts) = ⟨0, 0, 3⟩ := by
  have p := K_pos ts h
  unfold foldS
  rw [if_neg (by omega), if_neg (by simp), if_neg (by rintro ⟨x, hx, h1⟩; have := h x hx; omega), mk_cop (K_cop _) (by show 1 ≤ (K ts).1; omega), if_neg]
  rintro ⟨_, h2, h3⟩
  have h2 : -2147483647 ≤ t * (K ts).1 + (K ts).2 := h2
  have h3 : t * (K ts).1 + (K ts).2 ≤ 2147483647 := h3
  rcases hb with hb | hb
  · have : t * (K ts).1 ≤ -2147483649 * (K ts).1 := Int.mul_le_mul_of_nonneg_right (by omega) (by omega)
    omega
  · have : 2147483648 * (K ts).1 ≤ t * (K ts).1 := Int.mul_le_mul_of_nonneg_right (by omega) (by omega)
    omega

theorem fold_mk {t : Int} {ts : List Int} (hl : (t :: ts).length ≤ 50) (h : ∀ x ∈ ts, 1 ≤ x) : foldS (t :: ts) = mk (t * (K ts).1 + (K ts).2) (K ts).1 := by
  unfold foldS
  rw [if_neg (by omega), if_neg (by simp), if_neg (by rintro ⟨x, hx, h1⟩; have := h x hx; omega)]
  rfl

theorem fold_fit {t : Int} {ts : List Int} (hl : (t :: ts).length ≤ 50) (h : ∀ x ∈ ts, 1 ≤ x) (hb : (K ts).1 ≤ 2147483647) :
    foldS (t :: ts) = if -2147483647 ≤ t * (K ts).1 + (K ts).2 ∧ t * (K ts).1 + (K ts).2 ≤ 2147483647 then ⟨t * (K ts).1 + (K ts).2, (K ts).1, 0⟩ else ⟨0, 0, 3⟩ := by
  have p := K_pos ts h
  have g := K_cop (t :: ts)
  rw [K_cons] at g
  rw [fold_mk hl h, mk_cop g (by omega)]
  by_cases hc : -2147483647 ≤ t * (K ts).1 + (K ts).2 ∧ t * (K ts).1 + (K ts).2 ≤ 2147483647
  · rw [if_pos hc, if_pos ⟨hb, hc⟩]
  · rw [if_neg hc, if_neg (fun h => hc h.2)]

theorem fold_long {l : List Int} (h : 50 < l.length) : foldS l = ⟨0, 0, 2⟩ := by unfold foldS; rw [if_pos h]
theorem fold_none : foldS [] = ⟨0, 0, 1⟩ := by unfold foldS; simp
theorem fold_low {t : Int} {ts : List Int} (hl : (t :: ts).length ≤ 50) (h : ∃ x ∈ ts, x < 1) : foldS (t :: ts) = ⟨0, 0, 1⟩ := by
  unfold foldS
  rw [if_neg (by omega), if_neg (by simp), if_pos (by simpa using h)]

/-- the product at one step stays far from the ends of int -/
theorem K_step {t n d : Int} (ht : -2147483648 ≤ t ∧ t ≤ 2147483647) (hn : 1 ≤ n ∧ n ≤ 2147483647) (_hd : 0 ≤ d ∧ d ≤ 2147483647) : -4611686018427387904 ≤ t * n ∧ t * n ≤ 4611686018427387904 := by
  have a : 0 ≤ (2147483648 - t) * n := Int.mul_nonneg (by omega) (by omega)
  have b : 0 ≤ (2147483648 + t) * n := Int.mul_nonneg (by omega) (by omega)
  constructor <;> grind
end Rt
