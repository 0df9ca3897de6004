/- Contracts of the specification's comparing, rounding and reckoning with numbers. -/
import Derived.Test.YtffabmojbelaaaaDoorB
namespace Go.Proofs.YtffabmojbelaaaaDoor
open Go.RowKit

/-- bounds of a valid number -/
def Bd (n d : Int) : Prop := -2147483647 ≤ n ∧ n ≤ 2147483647 ∧ 1 ≤ d ∧ d ≤ 2147483647

theorem mul_bd {x y a b : Int} (hx : -a ≤ x ∧ x ≤ a) (hy : -b ≤ y ∧ y ≤ b) (_ha : 0 ≤ a) (_hb : 0 ≤ b) : -(a * b) ≤ x * y ∧ x * y ≤ a * b := by
  have h1 : 0 ≤ (a - x) * (b + y) := Int.mul_nonneg (by omega) (by omega)
  have h2 : 0 ≤ (a + x) * (b - y) := Int.mul_nonneg (by omega) (by omega)
  have h3 : 0 ≤ (a - x) * (b - y) := Int.mul_nonneg (by omega) (by omega)
  have h4 : 0 ≤ (a + x) * (b + y) := Int.mul_nonneg (by omega) (by omega)
  constructor <;> grind
theorem mul31 {x y : Int} (hx : -2147483647 ≤ x ∧ x ≤ 2147483647) (hy : -2147483647 ≤ y ∧ y ≤ 2147483647) : -4611686014132420609 ≤ x * y ∧ x * y ≤ 4611686014132420609 := by
  have := mul_bd (a := 2147483647) (b := 2147483647) (by omega) (by omega) (by omega) (by omega) (x := x) (y := y)
  omega
theorem w64 {x : Int} (h : -9223372036854775808 ≤ x ∧ x ≤ 9223372036854775807) : IntKind.i64.wrap x = x ∧ wrap64 x = x := by
  rw [IntKind.wrap_i64]; unfold wrap64; omega

set_option maxHeartbeats 400000 in
theorem less_any (a b c d : Int) (h1 : -2147483647 ≤ a ∧ a ≤ 2147483647) (h2 : 1 ≤ b ∧ b ≤ 2147483647) (h3 : -2147483647 ≤ c ∧ c ≤ 2147483647) (h4 : 1 ≤ d ∧ d ≤ 2147483647) (w : World) :
    Calls Tryd.prog 88 #[.agg #[.int .i64 a, .int .i64 b], .agg #[.int .i64 c, .int .i64 d]] w fun e w' => e = .returned (.bool (decide (a * d < c * b))) ∧ Below w.heap.size w w' := by
  have p1 := mul31 h1 (show -2147483647 ≤ d ∧ d ≤ 2147483647 by omega)
  have p2 := mul31 h3 (show -2147483647 ≤ b ∧ b ≤ 2147483647 by omega)
  obtain ⟨e1, e2⟩ := w64 (show -9223372036854775808 ≤ a * d ∧ a * d ≤ 9223372036854775807 by omega)
  obtain ⟨e3, e4⟩ := w64 (show -9223372036854775808 ≤ c * b ∧ c * b ≤ 9223372036854775807 by omega)
  clear h1 h2 h3 h4 p1 p2
  go_enter Tryd.func88, Tryd.ntmps88
  go_wp2
  go_ret
  exact ⟨rfl, (by repeat (first | with_reducible exact Below.refl _ _ | with_reducible assumption | refine below_drewN ?_ _ | refine Below.drew ?_ | refine Below.alloc ?_ (by first | (simp; done) | (simp; omega) | omega) _ | refine Below.setCell ?_ (by first | (simp; done) | (simp; omega) | omega) _ | refine Below.trans ?_ (Below.mono (by assumption) (by first | (simp; done) | (simp; omega) | omega))))⟩

theorem fl_eq {n d : Int} (h : 1 ≤ d) : (n.tmod d < 0 → n / d = n.tdiv d - 1) ∧ (¬ n.tmod d < 0 → n / d = n.tdiv d) := by
  rw [Rt.fl_tdiv (by omega)]
  exact ⟨fun h => by rw [if_pos h], fun h => by rw [if_neg h]⟩
theorem cl_eq {n d : Int} (h : 1 ≤ d) : (0 < n.tmod d → Rt.cl n d = n.tdiv d + 1) ∧ (¬ 0 < n.tmod d → Rt.cl n d = n.tdiv d) := by
  rw [Rt.cl_tdiv (by omega)]
  exact ⟨fun h => by rw [if_pos h], fun h => by rw [if_neg h]⟩
theorem fl_bd {n d : Int} (h : 1 ≤ d) (h0 : -9223372036854775808 ≤ n) (h1 : n ≤ 9223372036854775807) : -9223372036854775808 ≤ n / d ∧ n / d ≤ 9223372036854775807 := by
  constructor
  · exact (Rt.le_fl (by omega)).2 (by have := Int.mul_le_mul_of_nonneg_left h (show (0 : Int) ≤ 9223372036854775808 by omega); omega)
  · have := Int.ediv_le_ediv (c := d) (by omega) h1
    have := Int.ediv_le_self d (show (0 : Int) ≤ 9223372036854775807 by omega)
    omega
theorem cl_bd {n d : Int} (h : 1 ≤ d) (h0 : -9223372036854775807 ≤ n) (h1 : n ≤ 9223372036854775807) : -9223372036854775807 ≤ Rt.cl n d ∧ Rt.cl n d ≤ 9223372036854775807 := by
  have h2 := fl_bd (n := -n) h (by omega) (by omega)
  have h3 : (-9223372036854775807) * d ≤ -n ∨ 0 ≤ -n := by
    rcases Int.lt_or_le (-n) 0 with h5 | h5
    · left; have := Int.mul_le_mul_of_nonneg_left h (show (0 : Int) ≤ 9223372036854775807 by omega); omega
    · exact .inr h5
  have h4 : -9223372036854775807 ≤ (-n) / d := by
    rcases h3 with h5 | h5
    · exact (Rt.le_fl (by omega)).2 h5
    · have := Int.ediv_nonneg h5 (show 0 ≤ d by omega); omega
  unfold Rt.cl; omega

set_option maxHeartbeats 400000 in
theorem down_any (n d : Int) (h0 : -9223372036854775808 ≤ n) (h1 : n ≤ 9223372036854775807) (h2 : 1 ≤ d) (w : World) :
    Calls Tryd.prog 91 #[.int .i64 n, .int .i64 d] w fun e w' => e = .returned (.int .i64 (n / d)) ∧ w' = w := by
  have he := fl_eq (n := n) h2
  have hb := fl_bd (n := n) h2 h0 h1
  by_cases hm : n.tmod d < 0
  · have e1 := Lib.hid (he.1 hm)
    have e2 := Lib.hid (w64 (x := n.tdiv d - 1) (by rw [← e1.out]; exact hb)).2
    clear he hb
    go_enter Tryd.func91, Tryd.ntmps91
    go_wp2
    go_ret
    exact ⟨ret_i64 (by rw [e1.out, e2.out]), rfl⟩
  · have e1 := Lib.hid (he.2 hm)
    clear he hb
    go_enter Tryd.func91, Tryd.ntmps91
    go_wp2
    go_ret
    exact ⟨ret_i64 (by rw [e1.out]), rfl⟩

set_option maxHeartbeats 400000 in
theorem up_any (n d : Int) (h0 : -9223372036854775807 ≤ n) (h1 : n ≤ 9223372036854775807) (h2 : 1 ≤ d) (w : World) :
    Calls Tryd.prog 92 #[.int .i64 n, .int .i64 d] w fun e w' => e = .returned (.int .i64 (Rt.cl n d)) ∧ w' = w := by
  have he := cl_eq (n := n) h2
  have hb := cl_bd (n := n) h2 h0 h1
  by_cases hm : 0 < n.tmod d
  · have e1 := Lib.hid (he.1 hm)
    have e2 := Lib.hid (w64 (x := n.tdiv d + 1) (by rw [← e1.out]; omega)).2
    clear he hb
    go_enter Tryd.func92, Tryd.ntmps92
    go_wp2
    go_ret
    exact ⟨ret_i64 (by rw [e1.out, e2.out]), rfl⟩
  · have e1 := Lib.hid (he.2 hm)
    clear he hb
    go_enter Tryd.func92, Tryd.ntmps92
    go_wp2
    go_ret
    exact ⟨ret_i64 (by rw [e1.out]), rfl⟩

set_option maxHeartbeats 400000 in
theorem rneg_any (n d : Int) (h0 : -9223372036854775807 ≤ n) (h1 : n ≤ 9223372036854775807) (w : World) :
    Calls Tryd.prog 30 #[.agg #[.int .i64 n, .int .i64 d]] w fun e w' => e = .returned (.agg #[.int .i64 (-n), .int .i64 d]) ∧ Below w.heap.size w w' := by
  go_enter Tryd.func30, Tryd.ntmps30
  go_wp2
  refine bodyPost_ret (v := .agg #[.int .i64 (-n), .int .i64 d]) (by simp [results, Tryd.results30, go_sem]) rfl ?_
  exact ⟨rfl, (by repeat (first | with_reducible exact Below.refl _ _ | with_reducible assumption | refine below_drewN ?_ _ | refine Below.drew ?_ | refine Below.alloc ?_ (by first | (simp; done) | (simp; omega) | omega) _ | refine Below.setCell ?_ (by first | (simp; done) | (simp; omega) | omega) _ | refine Below.trans ?_ (Below.mono (by assumption) (by first | (simp; done) | (simp; omega) | omega))))⟩

set_option maxHeartbeats 400000 in
theorem radd' (a b c d : Int) (r : Rt.Num) (hr : Hid (Rt.mk (a * d + c * b) (b * d) = r)) (h1 : -2147483647 ≤ a ∧ a ≤ 2147483647) (h2 : 1 ≤ b ∧ b ≤ 2147483647) (h3 : -2147483647 ≤ c ∧ c ≤ 2147483647) (h4 : 1 ≤ d ∧ d ≤ 2147483647) (w : World) :
    Calls Tryd.prog 33 #[.agg #[.int .i64 a, .int .i64 b], .agg #[.int .i64 c, .int .i64 d]] w fun e w' => e = .returned (refV r) ∧ Below w.heap.size w w' := by
  have p1 := mul31 h1 (show -2147483647 ≤ d ∧ d ≤ 2147483647 by omega)
  have p2 := mul31 h3 (show -2147483647 ≤ b ∧ b ≤ 2147483647 by omega)
  have p3 := mul31 (show -2147483647 ≤ b ∧ b ≤ 2147483647 by omega) (show -2147483647 ≤ d ∧ d ≤ 2147483647 by omega)
  have p4 : 1 ≤ b * d := Int.mul_pos (a := b) (b := d) (by omega) (by omega)
  go_enter Tryd.func33, Tryd.ntmps33
  go_wp2_with fail
  refine (low_any (a * d + c * b) (b * d) (by omega) (by omega) (by omega) (by omega) _).mono ?_
  rintro e w' ⟨he, hb1⟩
  rw [hr.out, refV_eq] at he
  subst he
  have hz_hb1 := hb1.size
  try simp at hz_hb1
  have hb1_2_k0 : w'.cell? ⟨w.heap.size + 1 + 1, 0, none⟩ = some (.int .i64 0) := (hb1.cell (p := ⟨w.heap.size + 1 + 1, 0, none⟩) (by first | (simp; done) | (simp; omega) | omega)).trans (by first | assumption | (simp [go_sem]; done) | simp [go_sem, *])
  have hb1_2_k1 : w'.cell? ⟨w.heap.size + 1 + 1, 1, none⟩ = some (.int .i64 0) := (hb1.cell (p := ⟨w.heap.size + 1 + 1, 1, none⟩) (by first | (simp; done) | (simp; omega) | omega)).trans (by first | assumption | (simp [go_sem]; done) | simp [go_sem, *])
  have hb1_2_k2 : w'.cell? ⟨w.heap.size + 1 + 1, 2, none⟩ = some (.int .i64 0) := (hb1.cell (p := ⟨w.heap.size + 1 + 1, 2, none⟩) (by first | (simp; done) | (simp; omega) | omega)).trans (by first | assumption | (simp [go_sem]; done) | simp [go_sem, *])
  have hb1_2_f : ∀ o, w'.frozen? ⟨w.heap.size + 1 + 1, o, none⟩ = false := fun o => (hb1.frozen (p := ⟨w.heap.size + 1 + 1, o, none⟩) (by first | (simp; done) | (simp; omega) | omega)).trans (by first | assumption | (simp [go_sem]; done) | simp [go_sem, *])
  have hb1_2_lt : w.heap.size + 1 + 1 < w'.heap.size := Nat.lt_of_lt_of_le (m := _) (by first | (simp; done) | (simp; omega) | omega) hb1.size
  go_wp2
  refine bodyPost_ret (v := .agg #[.int .i64 r.n, .int .i64 r.d, .int .i64 r.e]) (by simp [results, Tryd.results33, go_sem, hb1_2_k0, hb1_2_k1, hb1_2_k2]) rfl ?_
  exact ⟨rfl, (by repeat (first | with_reducible exact Below.refl _ _ | with_reducible assumption | refine below_drewN ?_ _ | refine Below.drew ?_ | refine Below.alloc ?_ (by first | (simp; done) | (simp; omega) | omega) _ | refine Below.setCell ?_ (by first | (simp; done) | (simp; omega) | omega) _ | refine Below.trans ?_ (Below.mono (by assumption) (by first | (simp; done) | (simp; omega) | omega))))⟩
theorem radd (a b c d : Int) (h1 : -2147483647 ≤ a ∧ a ≤ 2147483647) (h2 : 1 ≤ b ∧ b ≤ 2147483647) (h3 : -2147483647 ≤ c ∧ c ≤ 2147483647) (h4 : 1 ≤ d ∧ d ≤ 2147483647) (w : World) :
    Calls Tryd.prog 33 #[.agg #[.int .i64 a, .int .i64 b], .agg #[.int .i64 c, .int .i64 d]] w fun e w' => e = .returned (refV (Rt.mk (a * d + c * b) (b * d))) ∧ Below w.heap.size w w' := radd' a b c d _ (Lib.hid rfl) h1 h2 h3 h4 w

set_option maxHeartbeats 400000 in
theorem rmul' (a b c d : Int) (r : Rt.Num) (hr : Hid (Rt.mk (a * c) (b * d) = r)) (h1 : -2147483647 ≤ a ∧ a ≤ 2147483647) (h2 : 1 ≤ b ∧ b ≤ 2147483647) (h3 : -2147483647 ≤ c ∧ c ≤ 2147483647) (h4 : 1 ≤ d ∧ d ≤ 2147483647) (w : World) :
    Calls Tryd.prog 35 #[.agg #[.int .i64 a, .int .i64 b], .agg #[.int .i64 c, .int .i64 d]] w fun e w' => e = .returned (refV r) ∧ Below w.heap.size w w' := by
  have p1 := mul31 h1 h3
  have p3 := mul31 (show -2147483647 ≤ b ∧ b ≤ 2147483647 by omega) (show -2147483647 ≤ d ∧ d ≤ 2147483647 by omega)
  have p4 : 1 ≤ b * d := Int.mul_pos (a := b) (b := d) (by omega) (by omega)
  go_enter Tryd.func35, Tryd.ntmps35
  go_wp2_with fail
  refine (low_any (a * c) (b * d) (by omega) (by omega) (by omega) (by omega) _).mono ?_
  rintro e w' ⟨he, hb1⟩
  rw [hr.out, refV_eq] at he
  subst he
  have hz_hb1 := hb1.size
  try simp at hz_hb1
  have hb1_2_k0 : w'.cell? ⟨w.heap.size + 1 + 1, 0, none⟩ = some (.int .i64 0) := (hb1.cell (p := ⟨w.heap.size + 1 + 1, 0, none⟩) (by first | (simp; done) | (simp; omega) | omega)).trans (by first | assumption | (simp [go_sem]; done) | simp [go_sem, *])
  have hb1_2_k1 : w'.cell? ⟨w.heap.size + 1 + 1, 1, none⟩ = some (.int .i64 0) := (hb1.cell (p := ⟨w.heap.size + 1 + 1, 1, none⟩) (by first | (simp; done) | (simp; omega) | omega)).trans (by first | assumption | (simp [go_sem]; done) | simp [go_sem, *])
  have hb1_2_k2 : w'.cell? ⟨w.heap.size + 1 + 1, 2, none⟩ = some (.int .i64 0) := (hb1.cell (p := ⟨w.heap.size + 1 + 1, 2, none⟩) (by first | (simp; done) | (simp; omega) | omega)).trans (by first | assumption | (simp [go_sem]; done) | simp [go_sem, *])
  have hb1_2_f : ∀ o, w'.frozen? ⟨w.heap.size + 1 + 1, o, none⟩ = false := fun o => (hb1.frozen (p := ⟨w.heap.size + 1 + 1, o, none⟩) (by first | (simp; done) | (simp; omega) | omega)).trans (by first | assumption | (simp [go_sem]; done) | simp [go_sem, *])
  have hb1_2_lt : w.heap.size + 1 + 1 < w'.heap.size := Nat.lt_of_lt_of_le (m := _) (by first | (simp; done) | (simp; omega) | omega) hb1.size
  go_wp2
  refine bodyPost_ret (v := .agg #[.int .i64 r.n, .int .i64 r.d, .int .i64 r.e]) (by simp [results, Tryd.results35, go_sem, hb1_2_k0, hb1_2_k1, hb1_2_k2]) rfl ?_
  exact ⟨rfl, (by repeat (first | with_reducible exact Below.refl _ _ | with_reducible assumption | refine below_drewN ?_ _ | refine Below.drew ?_ | refine Below.alloc ?_ (by first | (simp; done) | (simp; omega) | omega) _ | refine Below.setCell ?_ (by first | (simp; done) | (simp; omega) | omega) _ | refine Below.trans ?_ (Below.mono (by assumption) (by first | (simp; done) | (simp; omega) | omega))))⟩
theorem rmul (a b c d : Int) (h1 : -2147483647 ≤ a ∧ a ≤ 2147483647) (h2 : 1 ≤ b ∧ b ≤ 2147483647) (h3 : -2147483647 ≤ c ∧ c ≤ 2147483647) (h4 : 1 ≤ d ∧ d ≤ 2147483647) (w : World) :
    Calls Tryd.prog 35 #[.agg #[.int .i64 a, .int .i64 b], .agg #[.int .i64 c, .int .i64 d]] w fun e w' => e = .returned (refV (Rt.mk (a * c) (b * d))) ∧ Below w.heap.size w w' := rmul' a b c d _ (Lib.hid rfl) h1 h2 h3 h4 w

set_option maxHeartbeats 400000 in
theorem rmed' (a b c d : Int) (r : Rt.Num) (hr : Hid (Rt.mk (a + c) (b + d) = r)) (h1 : -2147483647 ≤ a ∧ a ≤ 2147483647) (h2 : 1 ≤ b ∧ b ≤ 2147483647) (h3 : -2147483647 ≤ c ∧ c ≤ 2147483647) (h4 : 1 ≤ d ∧ d ≤ 2147483647) (w : World) :
    Calls Tryd.prog 37 #[.agg #[.int .i64 a, .int .i64 b], .agg #[.int .i64 c, .int .i64 d]] w fun e w' => e = .returned (refV r) ∧ Below w.heap.size w w' := by
  skip
  go_enter Tryd.func37, Tryd.ntmps37
  go_wp2_with fail
  refine (low_any (a + c) (b + d) (by omega) (by omega) (by omega) (by omega) _).mono ?_
  rintro e w' ⟨he, hb1⟩
  rw [hr.out, refV_eq] at he
  subst he
  have hz_hb1 := hb1.size
  try simp at hz_hb1
  have hb1_2_k0 : w'.cell? ⟨w.heap.size + 1 + 1, 0, none⟩ = some (.int .i64 0) := (hb1.cell (p := ⟨w.heap.size + 1 + 1, 0, none⟩) (by first | (simp; done) | (simp; omega) | omega)).trans (by first | assumption | (simp [go_sem]; done) | simp [go_sem, *])
  have hb1_2_k1 : w'.cell? ⟨w.heap.size + 1 + 1, 1, none⟩ = some (.int .i64 0) := (hb1.cell (p := ⟨w.heap.size + 1 + 1, 1, none⟩) (by first | (simp; done) | (simp; omega) | omega)).trans (by first | assumption | (simp [go_sem]; done) | simp [go_sem, *])
  have hb1_2_k2 : w'.cell? ⟨w.heap.size + 1 + 1, 2, none⟩ = some (.int .i64 0) := (hb1.cell (p := ⟨w.heap.size + 1 + 1, 2, none⟩) (by first | (simp; done) | (simp; omega) | omega)).trans (by first | assumption | (simp [go_sem]; done) | simp [go_sem, *])
  have hb1_2_f : ∀ o, w'.frozen? ⟨w.heap.size + 1 + 1, o, none⟩ = false := fun o => (hb1.frozen (p := ⟨w.heap.size + 1 + 1, o, none⟩) (by first | (simp; done) | (simp; omega) | omega)).trans (by first | assumption | (simp [go_sem]; done) | simp [go_sem, *])
  have hb1_2_lt : w.heap.size + 1 + 1 < w'.heap.size := Nat.lt_of_lt_of_le (m := _) (by first | (simp; done) | (simp; omega) | omega) hb1.size
  go_wp2
  refine bodyPost_ret (v := .agg #[.int .i64 r.n, .int .i64 r.d, .int .i64 r.e]) (by simp [results, Tryd.results37, go_sem, hb1_2_k0, hb1_2_k1, hb1_2_k2]) rfl ?_
  exact ⟨rfl, (by repeat (first | with_reducible exact Below.refl _ _ | with_reducible assumption | refine below_drewN ?_ _ | refine Below.drew ?_ | refine Below.alloc ?_ (by first | (simp; done) | (simp; omega) | omega) _ | refine Below.setCell ?_ (by first | (simp; done) | (simp; omega) | omega) _ | refine Below.trans ?_ (Below.mono (by assumption) (by first | (simp; done) | (simp; omega) | omega))))⟩
theorem rmed (a b c d : Int) (h1 : -2147483647 ≤ a ∧ a ≤ 2147483647) (h2 : 1 ≤ b ∧ b ≤ 2147483647) (h3 : -2147483647 ≤ c ∧ c ≤ 2147483647) (h4 : 1 ≤ d ∧ d ≤ 2147483647) (w : World) :
    Calls Tryd.prog 37 #[.agg #[.int .i64 a, .int .i64 b], .agg #[.int .i64 c, .int .i64 d]] w fun e w' => e = .returned (refV (Rt.mk (a + c) (b + d))) ∧ Below w.heap.size w w' := rmed' a b c d _ (Lib.hid rfl) h1 h2 h3 h4 w

end Go.Proofs.YtffabmojbelaaaaDoor
