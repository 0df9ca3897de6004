/- The contract of the laws' near. -/
import Derived.Test.YtffabmojbelaaaaDoorF
import Derived.Test.YtffabmojbelaaaaDoorKq
namespace Go.Proofs.YtffabmojbelaaaaDoor
open Go.RowKit

/-- which of two differences is the lesser one, from the numbers' own parts -/
theorem near_math {N D p q u v xn xd yn yd : Int} (hD : 1 ≤ D) (hq : 1 ≤ q) (hv : 1 ≤ v) (hx : 1 ≤ xd) (hy : 1 ≤ yd) (e1 : xn * (D * q) = (N * q - p * D) * xd) (e2 : yn * (D * v) = (N * v - u * D) * yd)
    (h : Rt.ab (N * q - p * D) * v ≤ Rt.ab (N * v - u * D) * q) : Rt.ab xn * yd ≤ Rt.ab yn * xd := by
  have g1 : Rt.ab xn * (D * q) = Rt.ab (N * q - p * D) * xd := by
    have hp : 0 < D * q := Int.mul_pos (by omega) (by omega)
    rcases Int.lt_or_le xn 0 with h1 | h1
    · have : N * q - p * D ≤ 0 := by
        rcases Int.lt_or_le 0 (N * q - p * D) with h2 | h2
        · have := Int.mul_pos h2 (show 0 < xd by omega); have := Int.mul_neg_of_neg_of_pos h1 hp; omega
        · exact h2
      rw [Rt.ab_neg (by omega), Rt.ab_neg this, Int.neg_mul, Int.neg_mul, e1]
    · have : 0 ≤ N * q - p * D := by
        rcases Int.lt_or_le (N * q - p * D) 0 with h2 | h2
        · have := Int.mul_neg_of_neg_of_pos h2 (show 0 < xd by omega); have := Int.mul_nonneg h1 (show 0 ≤ D * q by omega); omega
        · exact h2
      rw [Rt.ab_pos h1, Rt.ab_pos this, e1]
  have g2 : Rt.ab yn * (D * v) = Rt.ab (N * v - u * D) * yd := by
    have hp : 0 < D * v := Int.mul_pos (by omega) (by omega)
    rcases Int.lt_or_le yn 0 with h1 | h1
    · have : N * v - u * D ≤ 0 := by
        rcases Int.lt_or_le 0 (N * v - u * D) with h2 | h2
        · have := Int.mul_pos h2 (show 0 < yd by omega); have := Int.mul_neg_of_neg_of_pos h1 hp; omega
        · exact h2
      rw [Rt.ab_neg (by omega), Rt.ab_neg this, Int.neg_mul, Int.neg_mul, e2]
    · have : 0 ≤ N * v - u * D := by
        rcases Int.lt_or_le (N * v - u * D) 0 with h2 | h2
        · have := Int.mul_neg_of_neg_of_pos h2 (show 0 < yd by omega); have := Int.mul_nonneg h1 (show 0 ≤ D * v by omega); omega
        · exact h2
      rw [Rt.ab_pos h1, Rt.ab_pos this, e2]
  generalize Rt.ab xn = X at *
  generalize Rt.ab yn = Y at *
  generalize Rt.ab (N * q - p * D) = P at *
  generalize Rt.ab (N * v - u * D) = U at *
  have k : 0 < D * q * v := Int.mul_pos (Int.mul_pos (by omega) (by omega)) (by omega)
  have t1 : D * q * v * (X * yd) = P * v * (xd * yd) := by
    have : D * q * v * (X * yd) = X * (D * q) * v * yd := by grind
    rw [this, g1]; grind
  have t2 : D * q * v * (Y * xd) = U * q * (xd * yd) := by
    have : D * q * v * (Y * xd) = Y * (D * v) * q * xd := by grind
    rw [this, g2]; grind
  have t3 : P * v * (xd * yd) ≤ U * q * (xd * yd) := Int.mul_le_mul_of_nonneg_right h (Int.mul_nonneg (by omega) (by omega))
  exact (Rt.mul_le_cancel k).1 (by omega)

theorem mk_cross {n d : Int} (hd : d ≠ 0) (h : (Rt.mk n d).e = 0) : Rt.vldP (Rt.mk n d).n (Rt.mk n d).d ∧ (Rt.mk n d).n * d = n * (Rt.mk n d).d := by
  rw [Rt.mk_eq hd] at h ⊢
  obtain ⟨h1, h2, h3⟩ := Rt.fit_ok h
  rw [h2, h3]
  exact ⟨Rt.vld_of_fit h1, Rt.divInt_cross hd⟩
theorem mk_e {n d : Int} (hd : d ≠ 0) : (Rt.mk n d).e = 0 ∨ (Rt.mk n d).e = 3 := by rw [Rt.mk_eq hd]; exact Rt.fit_e _
theorem vld_ab {n d : Int} (h : Rt.vldP n d) : Rt.vldP (Rt.ab n) d := by
  obtain ⟨h1, h2, h3, h4, h5⟩ := h
  unfold Rt.ab
  split
  · exact ⟨h1, h2, by omega, by omega, by rw [Int.neg_gcd]; exact h5⟩
  · exact ⟨h1, h2, h3, h4, h5⟩
theorem cmpZ_le {x y : Int} (h : x ≤ y) : Rt.cmpZ x y ≤ 0 := by unfold Rt.cmpZ; split <;> (try split) <;> omega

set_option maxRecDepth 100000 in
set_option maxHeartbeats 2000000 in
theorem near_ok (N D p q u v xn xd yn yd n : Int) (bx : -2147483647 ≤ xn ∧ xn ≤ 2147483647) (bY : -2147483647 ≤ yn ∧ yn ≤ 2147483647) (hn : n ≤ 0)
    (HX : Hid (∀ W : World, Calls Tryd.prog 26 #[.agg #[.int .i64 N, .int .i64 D], .agg #[.int .i64 p, .int .i64 q]] W fun e w' => e = .returned (.tuple #[.agg #[.int .i64 xn, .int .i64 xd], .int .i64 0]) ∧ Below W.heap.size W w'))
    (HY : Hid (∀ W : World, Calls Tryd.prog 26 #[.agg #[.int .i64 N, .int .i64 D], .agg #[.int .i64 u, .int .i64 v]] W fun e w' => e = .returned (.tuple #[.agg #[.int .i64 yn, .int .i64 yd], .int .i64 0]) ∧ Below W.heap.size W w'))
    (HC : Hid (∀ (c e : Int) (W : World), c = Rt.ab xn → e = Rt.ab yn → Calls Tryd.prog 23 #[.agg #[.int .i64 c, .int .i64 xd], .agg #[.int .i64 e, .int .i64 yd]] W fun e w' => e = .returned (.tuple #[.int .i64 n, .int .i64 0]) ∧ Below W.heap.size W w')) (w : World) :
    Calls Tryd.prog 72 #[.agg #[.int .i64 N, .int .i64 D], .agg #[.int .i64 p, .int .i64 q], .agg #[.int .i64 u, .int .i64 v]] w fun e w' => e = .returned (.bool true) ∧ Below w.heap.size w w' := by
  rcases Int.lt_or_le xn 0 with hx | hx <;> rcases Int.lt_or_le yn 0 with hy | hy
  all_goals
    go_enter Tryd.func72, Tryd.ntmps72
    go_wp2_with fail
    refine (HX.out _).mono ?_
    rintro e W1 ⟨rfl, hb1⟩
    have hz_hb1 := hb1.size
    try simp at hz_hb1
    have hb1_0_k0 : W1.cell? ⟨w.heap.size, 0, none⟩ = some (.int .i64 N) := (hb1.cell (p := ⟨w.heap.size, 0, none⟩) (by first | (simp; done) | (simp; omega) | omega)).trans (by first | assumption | (simp [go_sem]; done) | simp [go_sem, *])
    have hb1_0_k1 : W1.cell? ⟨w.heap.size, 1, none⟩ = some (.int .i64 D) := (hb1.cell (p := ⟨w.heap.size, 1, none⟩) (by first | (simp; done) | (simp; omega) | omega)).trans (by first | assumption | (simp [go_sem]; done) | simp [go_sem, *])
    have hb1_0_lt : w.heap.size < W1.heap.size := Nat.lt_of_lt_of_le (m := _) (by first | (simp; done) | (simp; omega) | omega) hb1.size
    have hb1_2_k0 : W1.cell? ⟨w.heap.size + 1 + 1, 0, none⟩ = some (.int .i64 u) := (hb1.cell (p := ⟨w.heap.size + 1 + 1, 0, none⟩) (by first | (simp; done) | (simp; omega) | omega)).trans (by first | assumption | (simp [go_sem]; done) | simp [go_sem, *])
    have hb1_2_k1 : W1.cell? ⟨w.heap.size + 1 + 1, 1, none⟩ = some (.int .i64 v) := (hb1.cell (p := ⟨w.heap.size + 1 + 1, 1, none⟩) (by first | (simp; done) | (simp; omega) | omega)).trans (by first | assumption | (simp [go_sem]; done) | simp [go_sem, *])
    have hb1_2_lt : w.heap.size + 1 + 1 < W1.heap.size := Nat.lt_of_lt_of_le (m := _) (by first | (simp; done) | (simp; omega) | omega) hb1.size
    go_wp2_with fail
    refine (HY.out _).mono ?_
    rintro e W2 ⟨rfl, hb2⟩
    have hz_hb2 := hb2.size
    try simp at hz_hb2
    have hb2_W10_k0 : W2.cell? ⟨W1.heap.size, 0, none⟩ = some (.int .i64 xn) := (hb2.cell (p := ⟨W1.heap.size, 0, none⟩) (by first | (simp; done) | (simp; omega) | omega)).trans (by first | assumption | (simp [go_sem]; done) | simp [go_sem, *])
    have hb2_W10_k1 : W2.cell? ⟨W1.heap.size, 1, none⟩ = some (.int .i64 xd) := (hb2.cell (p := ⟨W1.heap.size, 1, none⟩) (by first | (simp; done) | (simp; omega) | omega)).trans (by first | assumption | (simp [go_sem]; done) | simp [go_sem, *])
    have hb2_W10_f : ∀ o, W2.frozen? ⟨W1.heap.size, o, none⟩ = false := fun o => (hb2.frozen (p := ⟨W1.heap.size, o, none⟩) (by first | (simp; done) | (simp; omega) | omega)).trans (by first | assumption | (simp [go_sem]; done) | simp [go_sem, *])
    have hb2_W10_lt : W1.heap.size < W2.heap.size := Nat.lt_of_lt_of_le (m := _) (by first | (simp; done) | (simp; omega) | omega) hb2.size
    have ln : W1.heap.size < W2.heap.size + 1 := by omega
    go_wp2_with fail
    refine (HC.out _ _ _ (by unfold Rt.ab; split <;> omega) (by unfold Rt.ab; split <;> omega)).mono ?_
    rintro e W3 ⟨rfl, hb3⟩
    have hz3 := hb3.size
    go_wp2
    go_ret
    exact ⟨by simp, (by repeat (first | with_reducible exact Below.refl _ _ | with_reducible assumption | refine below_drewN ?_ _ | refine Below.drew ?_ | refine Below.alloc ?_ (by first | (simp; done) | (simp; omega) | omega) _ | refine Below.setCell ?_ (by first | (simp; done) | (simp; omega) | omega) _ | refine Below.trans ?_ (Below.mono (by assumption) (by first | (simp; done) | (simp; omega) | omega))))⟩

set_option maxHeartbeats 1000000 in
theorem near_far (N D p q u v : Int) (x y : Rt.Num) (h : (x.e != 0) = true ∨ (x.e != 0) = false ∧ (y.e != 0) = true)
    (HX : Hid (∀ W : World, Calls Tryd.prog 26 #[.agg #[.int .i64 N, .int .i64 D], .agg #[.int .i64 p, .int .i64 q]] W fun e w' => e = .returned (.tuple #[.agg #[.int .i64 x.n, .int .i64 x.d], .int .i64 x.e]) ∧ Below W.heap.size W w'))
    (HY : Hid (∀ W : World, Calls Tryd.prog 26 #[.agg #[.int .i64 N, .int .i64 D], .agg #[.int .i64 u, .int .i64 v]] W fun e w' => e = .returned (.tuple #[.agg #[.int .i64 y.n, .int .i64 y.d], .int .i64 y.e]) ∧ Below W.heap.size W w')) (w : World) :
    Calls Tryd.prog 72 #[.agg #[.int .i64 N, .int .i64 D], .agg #[.int .i64 p, .int .i64 q], .agg #[.int .i64 u, .int .i64 v]] w fun e w' => e = .returned (.bool true) ∧ Below w.heap.size w w' := by
  rcases h with h | ⟨h, h2⟩
  all_goals
    go_enter Tryd.func72, Tryd.ntmps72
    go_wp2_with fail
    refine (HX.out _).mono ?_
    rintro e W1 ⟨rfl, hb1⟩
    have hz_hb1 := hb1.size
    try simp at hz_hb1
    have hb1_0_k0 : W1.cell? ⟨w.heap.size, 0, none⟩ = some (.int .i64 N) := (hb1.cell (p := ⟨w.heap.size, 0, none⟩) (by first | (simp; done) | (simp; omega) | omega)).trans (by first | assumption | (simp [go_sem]; done) | simp [go_sem, *])
    have hb1_0_k1 : W1.cell? ⟨w.heap.size, 1, none⟩ = some (.int .i64 D) := (hb1.cell (p := ⟨w.heap.size, 1, none⟩) (by first | (simp; done) | (simp; omega) | omega)).trans (by first | assumption | (simp [go_sem]; done) | simp [go_sem, *])
    have hb1_0_lt : w.heap.size < W1.heap.size := Nat.lt_of_lt_of_le (m := _) (by first | (simp; done) | (simp; omega) | omega) hb1.size
    have hb1_2_k0 : W1.cell? ⟨w.heap.size + 1 + 1, 0, none⟩ = some (.int .i64 u) := (hb1.cell (p := ⟨w.heap.size + 1 + 1, 0, none⟩) (by first | (simp; done) | (simp; omega) | omega)).trans (by first | assumption | (simp [go_sem]; done) | simp [go_sem, *])
    have hb1_2_k1 : W1.cell? ⟨w.heap.size + 1 + 1, 1, none⟩ = some (.int .i64 v) := (hb1.cell (p := ⟨w.heap.size + 1 + 1, 1, none⟩) (by first | (simp; done) | (simp; omega) | omega)).trans (by first | assumption | (simp [go_sem]; done) | simp [go_sem, *])
    have hb1_2_lt : w.heap.size + 1 + 1 < W1.heap.size := Nat.lt_of_lt_of_le (m := _) (by first | (simp; done) | (simp; omega) | omega) hb1.size
    go_wp2_with fail
    refine (HY.out _).mono ?_
    rintro e W2 ⟨rfl, hb2⟩
    go_wp2
    go_ret
    exact ⟨rfl, below_alloc (bstep1 (bstep3 (Below.refl _ _) hb1) hb2) _⟩

/-- near says yes where a number is no farther -/
theorem near_yes (N D p q u v : Int) (h1 : Rt.vldP N D) (h2 : Rt.vldP p q) (h3 : Rt.vldP u v) (h : Rt.ab (N * q - p * D) * v ≤ Rt.ab (N * v - u * D) * q) (w : World) :
    Calls Tryd.prog 72 #[.agg #[.int .i64 N, .int .i64 D], .agg #[.int .i64 p, .int .i64 q], .agg #[.int .i64 u, .int .i64 v]] w fun e w' => e = .returned (.bool true) ∧ Below w.heap.size w w' := by
  have a1 := h1.1; have a2 := h2.1; have a3 := h3.1
  have d1 : D * q ≠ 0 := Int.mul_ne_zero (by omega) (by omega)
  have d2 : D * v ≠ 0 := Int.mul_ne_zero (by omega) (by omega)
  have HX := fun W => sub_ok N D p q h1 h2 W
  have HY := fun W => sub_ok N D u v h1 h3 W
  by_cases e1 : (Rt.mk (N * q - p * D) (D * q)).e = 0
  · by_cases e2 : (Rt.mk (N * v - u * D) (D * v)).e = 0
    · obtain ⟨v1, c1⟩ := mk_cross d1 e1
      obtain ⟨v2, c2⟩ := mk_cross d2 e2
      have m := near_math a1 a2 a3 v1.1 v2.1 c1 c2 h
      have k1 := vld_ab v1
      have k2 := vld_ab v2
      generalize Rt.mk (N * q - p * D) (D * q) = X at *
      generalize Rt.mk (N * v - u * D) (D * v) = Y at *
      obtain ⟨xn, xd, xe⟩ := X
      obtain ⟨yn, yd, ye⟩ := Y
      simp only at e1 e2 v1 v2 m k1 k2
      subst e1 e2
      exact near_ok N D p q u v xn xd yn yd _ ⟨v1.2.2.1, v1.2.2.2.1⟩ ⟨v2.2.2.1, v2.2.2.2.1⟩ (cmpZ_le m) (Lib.hid HX) (Lib.hid HY) (Lib.hid fun c e W hc he => by subst hc he; exact cmp_ok _ _ _ _ k1 k2 W) w
    · exact near_far N D p q u v _ _ (.inr ⟨by rw [e1]; rfl, by rw [bne_iff_ne]; exact e2⟩) (Lib.hid HX) (Lib.hid HY) w
  · exact near_far N D p q u v _ _ (.inl (by rw [bne_iff_ne]; exact e1)) (Lib.hid HX) (Lib.hid HY) w
end Go.Proofs.YtffabmojbelaaaaDoor
