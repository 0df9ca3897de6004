/- Contracts of Simplest, of package exact and of its specification. -/
import Derived.Test.YtffabmojbelaaaaDoorJ
namespace Go.Proofs.YtffabmojbelaaaaDoor
open Go.RowKit

/-- the simplest number from a/b to c/d -/
def smp (a b c d : Int) : Int × Int :=
  if 0 < a then Rt.spl a b c d else if c < 0 then (-(Rt.spl (-c) d (-a) b).1, (Rt.spl (-c) d (-a) b).2) else (0, 1)

theorem sim_pos {a b c d : Int} (h : vrP a b c d) (ha : 0 < a) : Sim a b c d := by
  obtain ⟨⟨x1, x2, x3, x4, _⟩, ⟨y1, y2, y3, y4, _⟩, h3⟩ := h
  have h4 : 0 < a * d := Int.mul_pos ha (by omega)
  have h5 : 1 ≤ c := by
    rcases Int.lt_or_le 0 c with h | h
    · exact h
    · have := Int.mul_nonpos_of_nonpos_of_nonneg h (show 0 ≤ b by omega); omega
  exact ⟨by omega, by omega, h5, by omega, by omega, by omega, by omega, by omega, by omega⟩
theorem sim_neg {a b c d : Int} (h : vrP a b c d) (hc : c < 0) : Sim (-c) d (-a) b := by
  obtain ⟨⟨x1, x2, x3, x4, _⟩, ⟨y1, y2, y3, y4, _⟩, h3⟩ := h
  have h4 : c * b < 0 := Int.mul_neg_of_neg_of_pos hc (by omega)
  have h5 : a < 0 := by
    rcases Int.lt_or_le a 0 with h | h
    · exact h
    · have := Int.mul_nonneg h (show 0 ≤ d by omega); omega
  exact ⟨by omega, by omega, by omega, by omega, by omega, by omega, by omega, by omega, by rw [Int.neg_mul, Int.neg_mul]; omega⟩

set_option maxHeartbeats 400000 in
theorem smp_bad (a b c d : Int) (w : World) (h : ¬ vrP a b c d) :
    Calls Tryd.prog 49 #[.agg #[.int .i64 a, .int .i64 b, .int .i64 c, .int .i64 d]] w fun e w' => e = .returned (numV ⟨0, 0, 1⟩) ∧ Below w.heap.size w w' := by
  replace h := Lib.hid h
  go_enter Tryd.func49, Tryd.ntmps49
  go_wp2_with fail
  refine (vrange_not a b c d _ h.out).mono ?_
  rintro e w1 ⟨rfl, hb1⟩
  have hz_hb1 := hb1.size
  try simp at hz_hb1
  have hb1_1_k0 : w1.cell? ⟨w.heap.size + 1, 0, none⟩ = some (.int .i64 0) := (hb1.cell (p := ⟨w.heap.size + 1, 0, none⟩) (by first | (simp; done) | (simp; omega) | omega)).trans (by first | assumption | (simp [go_sem]; done) | simp [go_sem, *])
  have hb1_1_k1 : w1.cell? ⟨w.heap.size + 1, 1, none⟩ = some (.int .i64 0) := (hb1.cell (p := ⟨w.heap.size + 1, 1, none⟩) (by first | (simp; done) | (simp; omega) | omega)).trans (by first | assumption | (simp [go_sem]; done) | simp [go_sem, *])
  have hb1_1_f : ∀ o, w1.frozen? ⟨w.heap.size + 1, o, none⟩ = false := fun o => (hb1.frozen (p := ⟨w.heap.size + 1, o, none⟩) (by first | (simp; done) | (simp; omega) | omega)).trans (by first | assumption | (simp [go_sem]; done) | simp [go_sem, *])
  have hb1_1_lt : w.heap.size + 1 < w1.heap.size := Nat.lt_of_lt_of_le (m := _) (by first | (simp; done) | (simp; omega) | omega) hb1.size
  go_wp2
  refine bodyPost_ret (v := .tuple #[.agg #[.int .i64 0, .int .i64 0], .int .i64 1]) (by simp [results, Tryd.results49, go_sem, *]) rfl ?_
  exact ⟨rfl, (by repeat (first | with_reducible exact Below.refl _ _ | with_reducible assumption | refine below_drewN ?_ _ | refine Below.drew ?_ | refine Below.alloc ?_ (by first | (simp; done) | (simp; omega) | omega) _ | refine Below.setCell ?_ (by first | (simp; done) | (simp; omega) | omega) _ | refine Below.trans ?_ (Below.mono (by assumption) (by first | (simp; done) | (simp; omega) | omega))))⟩

set_option maxHeartbeats 400000 in
theorem smp_zero (a b c d : Int) (w : World) (h : vrP a b c d) (ha : ¬ 0 < a) (hc : ¬ c < 0) :
    Calls Tryd.prog 49 #[.agg #[.int .i64 a, .int .i64 b, .int .i64 c, .int .i64 d]] w fun e w' => e = .returned (numV ⟨0, 1, 0⟩) ∧ Below w.heap.size w w' := by
  replace h := Lib.hid h
  go_enter Tryd.func49, Tryd.ntmps49
  go_wp2_with fail
  refine (vrange_yes a b c d _ h.out).mono ?_
  rintro e w1 ⟨rfl, hb1⟩
  have hz_hb1 := hb1.size
  try simp at hz_hb1
  have hb1_0_k0 : w1.cell? ⟨w.heap.size, 0, none⟩ = some (.int .i64 a) := (hb1.cell (p := ⟨w.heap.size, 0, none⟩) (by first | (simp; done) | (simp; omega) | omega)).trans (by first | assumption | (simp [go_sem]; done) | simp [go_sem, *])
  have hb1_0_k1 : w1.cell? ⟨w.heap.size, 1, none⟩ = some (.int .i64 b) := (hb1.cell (p := ⟨w.heap.size, 1, none⟩) (by first | (simp; done) | (simp; omega) | omega)).trans (by first | assumption | (simp [go_sem]; done) | simp [go_sem, *])
  have hb1_0_k2 : w1.cell? ⟨w.heap.size, 2, none⟩ = some (.int .i64 c) := (hb1.cell (p := ⟨w.heap.size, 2, none⟩) (by first | (simp; done) | (simp; omega) | omega)).trans (by first | assumption | (simp [go_sem]; done) | simp [go_sem, *])
  have hb1_0_k3 : w1.cell? ⟨w.heap.size, 3, none⟩ = some (.int .i64 d) := (hb1.cell (p := ⟨w.heap.size, 3, none⟩) (by first | (simp; done) | (simp; omega) | omega)).trans (by first | assumption | (simp [go_sem]; done) | simp [go_sem, *])
  have hb1_0_f : ∀ o, w1.frozen? ⟨w.heap.size, o, none⟩ = false := fun o => (hb1.frozen (p := ⟨w.heap.size, o, none⟩) (by first | (simp; done) | (simp; omega) | omega)).trans (by first | assumption | (simp [go_sem]; done) | simp [go_sem, *])
  have hb1_0_lt : w.heap.size < w1.heap.size := Nat.lt_of_lt_of_le (m := _) (by first | (simp; done) | (simp; omega) | omega) hb1.size
  have hb1_1_k0 : w1.cell? ⟨w.heap.size + 1, 0, none⟩ = some (.int .i64 0) := (hb1.cell (p := ⟨w.heap.size + 1, 0, none⟩) (by first | (simp; done) | (simp; omega) | omega)).trans (by first | assumption | (simp [go_sem]; done) | simp [go_sem, *])
  have hb1_1_k1 : w1.cell? ⟨w.heap.size + 1, 1, none⟩ = some (.int .i64 0) := (hb1.cell (p := ⟨w.heap.size + 1, 1, none⟩) (by first | (simp; done) | (simp; omega) | omega)).trans (by first | assumption | (simp [go_sem]; done) | simp [go_sem, *])
  have hb1_1_f : ∀ o, w1.frozen? ⟨w.heap.size + 1, o, none⟩ = false := fun o => (hb1.frozen (p := ⟨w.heap.size + 1, o, none⟩) (by first | (simp; done) | (simp; omega) | omega)).trans (by first | assumption | (simp [go_sem]; done) | simp [go_sem, *])
  have hb1_1_lt : w.heap.size + 1 < w1.heap.size := Nat.lt_of_lt_of_le (m := _) (by first | (simp; done) | (simp; omega) | omega) hb1.size
  go_wp2
  refine bodyPost_ret (v := .tuple #[.agg #[.int .i64 0, .int .i64 1], .int .i64 0]) (by simp [results, Tryd.results49, go_sem, *]) rfl ?_
  exact ⟨rfl, (by repeat (first | with_reducible exact Below.refl _ _ | with_reducible assumption | refine below_drewN ?_ _ | refine Below.drew ?_ | refine Below.alloc ?_ (by first | (simp; done) | (simp; omega) | omega) _ | refine Below.setCell ?_ (by first | (simp; done) | (simp; omega) | omega) _ | refine Below.trans ?_ (Below.mono (by assumption) (by first | (simp; done) | (simp; omega) | omega))))⟩

set_option maxHeartbeats 400000 in
theorem smp_pos (a b c d p q : Int) (w : World) (h : vrP a b c d) (ha : 0 < a) (hs : Hid (Sim a b c d)) (hp : Hid ((Rt.spl a b c d).1 = p)) (hq : Hid ((Rt.spl a b c d).2 = q)) :
    Calls Tryd.prog 49 #[.agg #[.int .i64 a, .int .i64 b, .int .i64 c, .int .i64 d]] w fun e w' => e = .returned (numV ⟨p, q, 0⟩) ∧ Below w.heap.size w w' := by
  replace h := Lib.hid h
  go_enter Tryd.func49, Tryd.ntmps49
  go_wp2_with fail
  refine (vrange_yes a b c d _ h.out).mono ?_
  rintro e w1 ⟨rfl, hb1⟩
  have hz_hb1 := hb1.size
  try simp at hz_hb1
  have hb1_0_k0 : w1.cell? ⟨w.heap.size, 0, none⟩ = some (.int .i64 a) := (hb1.cell (p := ⟨w.heap.size, 0, none⟩) (by first | (simp; done) | (simp; omega) | omega)).trans (by first | assumption | (simp [go_sem]; done) | simp [go_sem, *])
  have hb1_0_k1 : w1.cell? ⟨w.heap.size, 1, none⟩ = some (.int .i64 b) := (hb1.cell (p := ⟨w.heap.size, 1, none⟩) (by first | (simp; done) | (simp; omega) | omega)).trans (by first | assumption | (simp [go_sem]; done) | simp [go_sem, *])
  have hb1_0_k2 : w1.cell? ⟨w.heap.size, 2, none⟩ = some (.int .i64 c) := (hb1.cell (p := ⟨w.heap.size, 2, none⟩) (by first | (simp; done) | (simp; omega) | omega)).trans (by first | assumption | (simp [go_sem]; done) | simp [go_sem, *])
  have hb1_0_k3 : w1.cell? ⟨w.heap.size, 3, none⟩ = some (.int .i64 d) := (hb1.cell (p := ⟨w.heap.size, 3, none⟩) (by first | (simp; done) | (simp; omega) | omega)).trans (by first | assumption | (simp [go_sem]; done) | simp [go_sem, *])
  have hb1_0_f : ∀ o, w1.frozen? ⟨w.heap.size, o, none⟩ = false := fun o => (hb1.frozen (p := ⟨w.heap.size, o, none⟩) (by first | (simp; done) | (simp; omega) | omega)).trans (by first | assumption | (simp [go_sem]; done) | simp [go_sem, *])
  have hb1_0_lt : w.heap.size < w1.heap.size := Nat.lt_of_lt_of_le (m := _) (by first | (simp; done) | (simp; omega) | omega) hb1.size
  have hb1_1_k0 : w1.cell? ⟨w.heap.size + 1, 0, none⟩ = some (.int .i64 0) := (hb1.cell (p := ⟨w.heap.size + 1, 0, none⟩) (by first | (simp; done) | (simp; omega) | omega)).trans (by first | assumption | (simp [go_sem]; done) | simp [go_sem, *])
  have hb1_1_k1 : w1.cell? ⟨w.heap.size + 1, 1, none⟩ = some (.int .i64 0) := (hb1.cell (p := ⟨w.heap.size + 1, 1, none⟩) (by first | (simp; done) | (simp; omega) | omega)).trans (by first | assumption | (simp [go_sem]; done) | simp [go_sem, *])
  have hb1_1_f : ∀ o, w1.frozen? ⟨w.heap.size + 1, o, none⟩ = false := fun o => (hb1.frozen (p := ⟨w.heap.size + 1, o, none⟩) (by first | (simp; done) | (simp; omega) | omega)).trans (by first | assumption | (simp [go_sem]; done) | simp [go_sem, *])
  have hb1_1_lt : w.heap.size + 1 < w1.heap.size := Nat.lt_of_lt_of_le (m := _) (by first | (simp; done) | (simp; omega) | omega) hb1.size
  go_wp2_with fail
  refine (sab_any _ a b c d _ (Nat.le_refl _) hs.out).mono ?_
  rintro e w2 ⟨he, hb2⟩
  rw [hp.out, hq.out] at he
  subst he
  have hz_hb2 := hb2.size
  try simp at hz_hb2
  have hb2_1_k0 : w2.cell? ⟨w.heap.size + 1, 0, none⟩ = some (.int .i64 0) := (hb2.cell (p := ⟨w.heap.size + 1, 0, none⟩) (by first | (simp; done) | (simp; omega) | omega)).trans (by first | assumption | (simp [go_sem]; done) | simp [go_sem, *])
  have hb2_1_k1 : w2.cell? ⟨w.heap.size + 1, 1, none⟩ = some (.int .i64 0) := (hb2.cell (p := ⟨w.heap.size + 1, 1, none⟩) (by first | (simp; done) | (simp; omega) | omega)).trans (by first | assumption | (simp [go_sem]; done) | simp [go_sem, *])
  have hb2_1_f : ∀ o, w2.frozen? ⟨w.heap.size + 1, o, none⟩ = false := fun o => (hb2.frozen (p := ⟨w.heap.size + 1, o, none⟩) (by first | (simp; done) | (simp; omega) | omega)).trans (by first | assumption | (simp [go_sem]; done) | simp [go_sem, *])
  have hb2_1_lt : w.heap.size + 1 < w2.heap.size := Nat.lt_of_lt_of_le (m := _) (by first | (simp; done) | (simp; omega) | omega) hb2.size
  go_wp2
  refine bodyPost_ret (v := .tuple #[.agg #[.int .i64 p, .int .i64 q], .int .i64 0]) (by simp [results, Tryd.results49, go_sem, *]) rfl ?_
  exact ⟨rfl, (by repeat (first | with_reducible exact Below.refl _ _ | with_reducible assumption | refine below_drewN ?_ _ | refine Below.drew ?_ | refine Below.alloc ?_ (by first | (simp; done) | (simp; omega) | omega) _ | refine Below.setCell ?_ (by first | (simp; done) | (simp; omega) | omega) _ | refine Below.trans ?_ (Below.mono (by assumption) (by first | (simp; done) | (simp; omega) | omega))))⟩

set_option maxHeartbeats 1000000 in
theorem smp_neg (a b c d p q : Int) (w : World) (h : vrP a b c d) (ha : ¬ 0 < a) (hc : c < 0) (hs : Hid (Sim (-c) d (-a) b)) (hp : Hid ((Rt.spl (-c) d (-a) b).1 = p)) (hq : Hid ((Rt.spl (-c) d (-a) b).2 = q)) (p0 : 0 ≤ p) (p1 : p ≤ 2147483647)
    (a0 : -2147483647 ≤ a) (c0 : -2147483647 ≤ c) :
    Calls Tryd.prog 49 #[.agg #[.int .i64 a, .int .i64 b, .int .i64 c, .int .i64 d]] w fun e w' => e = .returned (numV ⟨-p, q, 0⟩) ∧ Below w.heap.size w w' := by
  replace h := Lib.hid h
  go_enter Tryd.func49, Tryd.ntmps49
  go_wp2_with fail
  refine (vrange_yes a b c d _ h.out).mono ?_
  rintro e w1 ⟨rfl, hb1⟩
  have hz_hb1 := hb1.size
  try simp at hz_hb1
  have hb1_0_k0 : w1.cell? ⟨w.heap.size, 0, none⟩ = some (.int .i64 a) := (hb1.cell (p := ⟨w.heap.size, 0, none⟩) (by first | (simp; done) | (simp; omega) | omega)).trans (by first | assumption | (simp [go_sem]; done) | simp [go_sem, *])
  have hb1_0_k1 : w1.cell? ⟨w.heap.size, 1, none⟩ = some (.int .i64 b) := (hb1.cell (p := ⟨w.heap.size, 1, none⟩) (by first | (simp; done) | (simp; omega) | omega)).trans (by first | assumption | (simp [go_sem]; done) | simp [go_sem, *])
  have hb1_0_k2 : w1.cell? ⟨w.heap.size, 2, none⟩ = some (.int .i64 c) := (hb1.cell (p := ⟨w.heap.size, 2, none⟩) (by first | (simp; done) | (simp; omega) | omega)).trans (by first | assumption | (simp [go_sem]; done) | simp [go_sem, *])
  have hb1_0_k3 : w1.cell? ⟨w.heap.size, 3, none⟩ = some (.int .i64 d) := (hb1.cell (p := ⟨w.heap.size, 3, none⟩) (by first | (simp; done) | (simp; omega) | omega)).trans (by first | assumption | (simp [go_sem]; done) | simp [go_sem, *])
  have hb1_0_f : ∀ o, w1.frozen? ⟨w.heap.size, o, none⟩ = false := fun o => (hb1.frozen (p := ⟨w.heap.size, o, none⟩) (by first | (simp; done) | (simp; omega) | omega)).trans (by first | assumption | (simp [go_sem]; done) | simp [go_sem, *])
  have hb1_0_lt : w.heap.size < w1.heap.size := Nat.lt_of_lt_of_le (m := _) (by first | (simp; done) | (simp; omega) | omega) hb1.size
  have hb1_1_k0 : w1.cell? ⟨w.heap.size + 1, 0, none⟩ = some (.int .i64 0) := (hb1.cell (p := ⟨w.heap.size + 1, 0, none⟩) (by first | (simp; done) | (simp; omega) | omega)).trans (by first | assumption | (simp [go_sem]; done) | simp [go_sem, *])
  have hb1_1_k1 : w1.cell? ⟨w.heap.size + 1, 1, none⟩ = some (.int .i64 0) := (hb1.cell (p := ⟨w.heap.size + 1, 1, none⟩) (by first | (simp; done) | (simp; omega) | omega)).trans (by first | assumption | (simp [go_sem]; done) | simp [go_sem, *])
  have hb1_1_f : ∀ o, w1.frozen? ⟨w.heap.size + 1, o, none⟩ = false := fun o => (hb1.frozen (p := ⟨w.heap.size + 1, o, none⟩) (by first | (simp; done) | (simp; omega) | omega)).trans (by first | assumption | (simp [go_sem]; done) | simp [go_sem, *])
  have hb1_1_lt : w.heap.size + 1 < w1.heap.size := Nat.lt_of_lt_of_le (m := _) (by first | (simp; done) | (simp; omega) | omega) hb1.size
  go_wp2_with fail
  go_region_with (first
    | (go_at_call 75
       refine (opp_any _ _ (by omega) (by omega) _).mono ?_
       rintro e wq ⟨rfl, hbq⟩
       have hz_hbq := hbq.size
       try simp at hz_hbq
       have hbq_0_k0 : wq.cell? ⟨w.heap.size, 0, none⟩ = some (.int .i64 a) := (hbq.cell (p := ⟨w.heap.size, 0, none⟩) (by first | (simp; done) | (simp; omega) | omega)).trans (by first | assumption | (simp [go_sem]; done) | simp [go_sem, *])
       have hbq_0_k1 : wq.cell? ⟨w.heap.size, 1, none⟩ = some (.int .i64 b) := (hbq.cell (p := ⟨w.heap.size, 1, none⟩) (by first | (simp; done) | (simp; omega) | omega)).trans (by first | assumption | (simp [go_sem]; done) | simp [go_sem, *])
       have hbq_0_k2 : wq.cell? ⟨w.heap.size, 2, none⟩ = some (.int .i64 c) := (hbq.cell (p := ⟨w.heap.size, 2, none⟩) (by first | (simp; done) | (simp; omega) | omega)).trans (by first | assumption | (simp [go_sem]; done) | simp [go_sem, *])
       have hbq_0_k3 : wq.cell? ⟨w.heap.size, 3, none⟩ = some (.int .i64 d) := (hbq.cell (p := ⟨w.heap.size, 3, none⟩) (by first | (simp; done) | (simp; omega) | omega)).trans (by first | assumption | (simp [go_sem]; done) | simp [go_sem, *])
       have hbq_0_f : ∀ o, wq.frozen? ⟨w.heap.size, o, none⟩ = false := fun o => (hbq.frozen (p := ⟨w.heap.size, o, none⟩) (by first | (simp; done) | (simp; omega) | omega)).trans (by first | assumption | (simp [go_sem]; done) | simp [go_sem, *])
       have hbq_0_lt : w.heap.size < wq.heap.size := Nat.lt_of_lt_of_le (m := _) (by first | (simp; done) | (simp; omega) | omega) hbq.size
       have hbq_1_k0 : wq.cell? ⟨w.heap.size + 1, 0, none⟩ = some (.int .i64 0) := (hbq.cell (p := ⟨w.heap.size + 1, 0, none⟩) (by first | (simp; done) | (simp; omega) | omega)).trans (by first | assumption | (simp [go_sem]; done) | simp [go_sem, *])
       have hbq_1_k1 : wq.cell? ⟨w.heap.size + 1, 1, none⟩ = some (.int .i64 0) := (hbq.cell (p := ⟨w.heap.size + 1, 1, none⟩) (by first | (simp; done) | (simp; omega) | omega)).trans (by first | assumption | (simp [go_sem]; done) | simp [go_sem, *])
       have hbq_1_f : ∀ o, wq.frozen? ⟨w.heap.size + 1, o, none⟩ = false := fun o => (hbq.frozen (p := ⟨w.heap.size + 1, o, none⟩) (by first | (simp; done) | (simp; omega) | omega)).trans (by first | assumption | (simp [go_sem]; done) | simp [go_sem, *])
       have hbq_1_lt : w.heap.size + 1 < wq.heap.size := Nat.lt_of_lt_of_le (m := _) (by first | (simp; done) | (simp; omega) | omega) hbq.size
       skip)
    | (go_at_call 96
       refine (sab_any _ (-c) d (-a) b _ (Nat.le_refl _) hs.out).mono ?_
       rintro e wr ⟨he, hbr⟩
       rw [hp.out, hq.out] at he
       subst he
       have hz_hbr := hbr.size
       try simp at hz_hbr
       have hbr_0_k0 : wr.cell? ⟨w.heap.size, 0, none⟩ = some (.int .i64 a) := (hbr.cell (p := ⟨w.heap.size, 0, none⟩) (by first | (simp; done) | (simp; omega) | omega)).trans (by first | assumption | (simp [go_sem]; done) | simp [go_sem, *])
       have hbr_0_k1 : wr.cell? ⟨w.heap.size, 1, none⟩ = some (.int .i64 b) := (hbr.cell (p := ⟨w.heap.size, 1, none⟩) (by first | (simp; done) | (simp; omega) | omega)).trans (by first | assumption | (simp [go_sem]; done) | simp [go_sem, *])
       have hbr_0_k2 : wr.cell? ⟨w.heap.size, 2, none⟩ = some (.int .i64 c) := (hbr.cell (p := ⟨w.heap.size, 2, none⟩) (by first | (simp; done) | (simp; omega) | omega)).trans (by first | assumption | (simp [go_sem]; done) | simp [go_sem, *])
       have hbr_0_k3 : wr.cell? ⟨w.heap.size, 3, none⟩ = some (.int .i64 d) := (hbr.cell (p := ⟨w.heap.size, 3, none⟩) (by first | (simp; done) | (simp; omega) | omega)).trans (by first | assumption | (simp [go_sem]; done) | simp [go_sem, *])
       have hbr_0_f : ∀ o, wr.frozen? ⟨w.heap.size, o, none⟩ = false := fun o => (hbr.frozen (p := ⟨w.heap.size, o, none⟩) (by first | (simp; done) | (simp; omega) | omega)).trans (by first | assumption | (simp [go_sem]; done) | simp [go_sem, *])
       have hbr_0_lt : w.heap.size < wr.heap.size := Nat.lt_of_lt_of_le (m := _) (by first | (simp; done) | (simp; omega) | omega) hbr.size
       have hbr_1_k0 : wr.cell? ⟨w.heap.size + 1, 0, none⟩ = some (.int .i64 0) := (hbr.cell (p := ⟨w.heap.size + 1, 0, none⟩) (by first | (simp; done) | (simp; omega) | omega)).trans (by first | assumption | (simp [go_sem]; done) | simp [go_sem, *])
       have hbr_1_k1 : wr.cell? ⟨w.heap.size + 1, 1, none⟩ = some (.int .i64 0) := (hbr.cell (p := ⟨w.heap.size + 1, 1, none⟩) (by first | (simp; done) | (simp; omega) | omega)).trans (by first | assumption | (simp [go_sem]; done) | simp [go_sem, *])
       have hbr_1_f : ∀ o, wr.frozen? ⟨w.heap.size + 1, o, none⟩ = false := fun o => (hbr.frozen (p := ⟨w.heap.size + 1, o, none⟩) (by first | (simp; done) | (simp; omega) | omega)).trans (by first | assumption | (simp [go_sem]; done) | simp [go_sem, *])
       have hbr_1_lt : w.heap.size + 1 < wr.heap.size := Nat.lt_of_lt_of_le (m := _) (by first | (simp; done) | (simp; omega) | omega) hbr.size
       skip))
  all_goals
    go_wp2
    refine bodyPost_ret (v := .tuple #[.agg #[.int .i64 (-p), .int .i64 q], .int .i64 0]) (by simp [results, Tryd.results49, go_sem, *]) rfl ?_
    exact ⟨rfl, (by repeat (first | with_reducible exact Below.refl _ _ | with_reducible assumption | refine below_drewN ?_ _ | refine Below.drew ?_ | refine Below.alloc ?_ (by first | (simp; done) | (simp; omega) | omega) _ | refine Below.setCell ?_ (by first | (simp; done) | (simp; omega) | omega) _ | refine Below.trans ?_ (Below.mono (by assumption) (by first | (simp; done) | (simp; omega) | omega))))⟩

theorem smp_ok (a b c d : Int) (w : World) (h : vrP a b c d) :
    Calls Tryd.prog 49 #[.agg #[.int .i64 a, .int .i64 b, .int .i64 c, .int .i64 d]] w fun e w' => e = .returned (numV ⟨(smp a b c d).1, (smp a b c d).2, 0⟩) ∧ Below w.heap.size w w' := by
  by_cases ha : 0 < a
  · unfold smp; rw [if_pos ha]
    exact smp_pos a b c d _ _ w h ha (Lib.hid (sim_pos h ha)) (Lib.hid rfl) (Lib.hid rfl)
  · by_cases hc : c < 0
    · have hs := sim_neg h hc
      have hb := spl_bd hs
      have := hs.a1; have := hs.c1
      have := h.1; have := h.2.1
      unfold smp; rw [if_neg ha, if_pos hc]
      exact smp_neg a b c d _ _ w h ha hc (Lib.hid hs) (Lib.hid rfl) (Lib.hid rfl) (by omega) (by omega) (by omega) (by omega)
    · unfold smp; rw [if_neg ha, if_neg hc]
      exact smp_zero a b c d w h ha hc

set_option maxHeartbeats 400000 in
theorem rsmp_zero (a b c d : Int) (w : World) (ha : a ≤ 0) (hc : 0 ≤ c) :
    Calls Tryd.prog 51 #[.agg #[.int .i64 a, .int .i64 b, .int .i64 c, .int .i64 d]] w fun e w' => e = .returned (.agg #[.int .i64 0, .int .i64 1]) ∧ Below w.heap.size w w' := by
  go_enter Tryd.func51, Tryd.ntmps51
  go_wp2
  refine bodyPost_ret (v := .agg #[.int .i64 0, .int .i64 1]) (by simp [results, Tryd.results51, go_sem, *]) rfl ?_
  exact ⟨rfl, (by repeat (first | with_reducible exact Below.refl _ _ | with_reducible assumption | refine below_drewN ?_ _ | refine Below.drew ?_ | refine Below.alloc ?_ (by first | (simp; done) | (simp; omega) | omega) _ | refine Below.setCell ?_ (by first | (simp; done) | (simp; omega) | omega) _ | refine Below.trans ?_ (Below.mono (by assumption) (by first | (simp; done) | (simp; omega) | omega))))⟩

set_option maxHeartbeats 400000 in
theorem rsmp_pos (a b c d p q : Int) (w : World) (ha : 0 < a) (hc : 0 < c) (hs : Hid (Sim a b c d)) (hp : Hid ((Rt.spl a b c d).1 = p)) (hq : Hid ((Rt.spl a b c d).2 = q)) :
    Calls Tryd.prog 51 #[.agg #[.int .i64 a, .int .i64 b, .int .i64 c, .int .i64 d]] w fun e w' => e = .returned (.agg #[.int .i64 p, .int .i64 q]) ∧ Below w.heap.size w w' := by
  go_enter Tryd.func51, Tryd.ntmps51
  go_wp2_with fail
  refine (sim_any _ a b c d _ (Nat.le_refl _) hs.out).mono ?_
  rintro e w2 ⟨he, hw2⟩
  rw [hp.out, hq.out] at he
  subst he hw2
  go_wp2
  refine bodyPost_ret (v := .agg #[.int .i64 p, .int .i64 q]) (by simp [results, Tryd.results51, go_sem, *]) rfl ?_
  exact ⟨rfl, (by repeat (first | with_reducible exact Below.refl _ _ | with_reducible assumption | refine below_drewN ?_ _ | refine Below.drew ?_ | refine Below.alloc ?_ (by first | (simp; done) | (simp; omega) | omega) _ | refine Below.setCell ?_ (by first | (simp; done) | (simp; omega) | omega) _ | refine Below.trans ?_ (Below.mono (by assumption) (by first | (simp; done) | (simp; omega) | omega))))⟩

set_option maxHeartbeats 400000 in
theorem rsmp_neg (a b c d p q : Int) (w : World) (ha : a < 0) (hc : c < 0) (hs : Hid (Sim (-c) d (-a) b)) (hp : Hid ((Rt.spl (-c) d (-a) b).1 = p)) (hq : Hid ((Rt.spl (-c) d (-a) b).2 = q)) (p0 : 0 ≤ p) (p1 : p ≤ 2147483647)
    (a0 : -2147483647 ≤ a) (c0 : -2147483647 ≤ c) :
    Calls Tryd.prog 51 #[.agg #[.int .i64 a, .int .i64 b, .int .i64 c, .int .i64 d]] w fun e w' => e = .returned (.agg #[.int .i64 (-p), .int .i64 q]) ∧ Below w.heap.size w w' := by
  go_enter Tryd.func51, Tryd.ntmps51
  go_wp2_with fail
  refine (sim_any _ (-c) d (-a) b _ (Nat.le_refl _) hs.out).mono ?_
  rintro e w2 ⟨he, hw2⟩
  rw [hp.out, hq.out] at he
  subst he hw2
  go_wp2
  refine bodyPost_ret (v := .agg #[.int .i64 (-p), .int .i64 q]) (by simp [results, Tryd.results51, go_sem, *]) rfl ?_
  exact ⟨rfl, (by repeat (first | with_reducible exact Below.refl _ _ | with_reducible assumption | refine below_drewN ?_ _ | refine Below.drew ?_ | refine Below.alloc ?_ (by first | (simp; done) | (simp; omega) | omega) _ | refine Below.setCell ?_ (by first | (simp; done) | (simp; omega) | omega) _ | refine Below.trans ?_ (Below.mono (by assumption) (by first | (simp; done) | (simp; omega) | omega))))⟩

theorem rsmp_ok (a b c d : Int) (w : World) (h : vrP a b c d) :
    Calls Tryd.prog 51 #[.agg #[.int .i64 a, .int .i64 b, .int .i64 c, .int .i64 d]] w fun e w' => e = .returned (.agg #[.int .i64 (smp a b c d).1, .int .i64 (smp a b c d).2]) ∧ Below w.heap.size w w' := by
  by_cases ha : 0 < a
  · have hs := sim_pos h ha
    have := hs.c0
    unfold smp; rw [if_pos ha]
    exact rsmp_pos a b c d _ _ w ha (by omega) (Lib.hid hs) (Lib.hid rfl) (Lib.hid rfl)
  · by_cases hc : c < 0
    · have hs := sim_neg h hc
      have hb := spl_bd hs
      have := hs.a1; have := hs.c0; have := hs.c1
      have := h.1; have := h.2.1
      unfold smp; rw [if_neg ha, if_pos hc]
      exact rsmp_neg a b c d _ _ w (by omega) hc (Lib.hid hs) (Lib.hid rfl) (Lib.hid rfl) (by omega) (by omega) (by omega) (by omega)
    · unfold smp; rw [if_neg ha, if_neg hc]
      exact rsmp_zero a b c d w (by omega) (by omega)
end Go.Proofs.YtffabmojbelaaaaDoor
