/- The contract of closer of package exact: of two neighbours the one that is closer, and the best number. -/
import Derived.Test.YtffabmojbelaaaaDoorN
namespace Go.Proofs.YtffabmojbelaaaaDoor
open Go.RowKit

set_option maxHeartbeats 1000000 in
theorem closer_core (N D p1 p2 q1 q2 a b c d e1 f1 g1 k1 : Int)
    (H1 : Hid (∀ W : World, Calls Tryd.prog 102 #[.agg #[.int .i64 p1, .int .i64 p2], .agg #[.int .i64 q1, .int .i64 q2], .func (.func 101) #[] #[]] W fun e w' => e = .returned (twoV a b c d) ∧ Below W.heap.size W w'))
    (H2 : Hid (∀ (W : World) (B : Nat), B < W.heap.size → W.cell? ⟨B, 0, none⟩ = some (.int .i64 N) → W.cell? ⟨B, 1, none⟩ = some (.int .i64 D) →
      Calls Tryd.prog 102 #[.agg #[.int .i64 a, .int .i64 b], .agg #[.int .i64 c, .int .i64 d], .func (.func 116) #[] #[.pointer (some ⟨B, 0, none⟩)]] W fun e w' => e = .returned (twoV e1 f1 g1 k1) ∧ Below W.heap.size W w')) (w : World) :
    Calls Tryd.prog 99 #[.agg #[.int .i64 N, .int .i64 D], .agg #[.int .i64 p1, .int .i64 p2], .agg #[.int .i64 q1, .int .i64 q2]] w fun e w' => e = .returned (.agg #[.int .i64 e1, .int .i64 f1]) ∧ Below w.heap.size w w' := by
  have hmf : ∀ (fn : Fn) (first cap : Array Value) (w : World), (Instr.makeFunc fn first cap).run Tryd.prog w = .ok (.func fn first cap) w := fun _ _ _ _ => rfl
  go_enter Tryd.func99, Tryd.ntmps99
  go_wp2_with fail
  refine (H1.out _).mono ?_
  rintro e w1 ⟨he, hb1⟩
  unfold twoV at he
  subst he
  have hz_hb1 := hb1.size
  try simp at hz_hb1
  have hb1_0_k0 : w1.cell? ⟨w.heap.size, 0, none⟩ = some (.int .i64 N) := (hb1.cell (p := ⟨w.heap.size, 0, none⟩) (by first | (simp; done) | (simp; omega) | omega)).trans (by first | assumption | (simp [go_sem]; done) | simp [go_sem, *])
  have hb1_0_k1 : w1.cell? ⟨w.heap.size, 1, none⟩ = some (.int .i64 D) := (hb1.cell (p := ⟨w.heap.size, 1, none⟩) (by first | (simp; done) | (simp; omega) | omega)).trans (by first | assumption | (simp [go_sem]; done) | simp [go_sem, *])
  have hb1_0_f : ∀ o, w1.frozen? ⟨w.heap.size, o, none⟩ = false := fun o => (hb1.frozen (p := ⟨w.heap.size, o, none⟩) (by first | (simp; done) | (simp; omega) | omega)).trans (by first | assumption | (simp [go_sem]; done) | simp [go_sem, *])
  have hb1_0_lt : w.heap.size < w1.heap.size := Nat.lt_of_lt_of_le (m := _) (by first | (simp; done) | (simp; omega) | omega) hb1.size
  have hb1_3_k0 : w1.cell? ⟨w.heap.size + 1 + 1 + 1, 0, none⟩ = some (.int .i64 0) := (hb1.cell (p := ⟨w.heap.size + 1 + 1 + 1, 0, none⟩) (by first | (simp; done) | (simp; omega) | omega)).trans (by first | assumption | (simp [go_sem]; done) | simp [go_sem, *])
  have hb1_3_k1 : w1.cell? ⟨w.heap.size + 1 + 1 + 1, 1, none⟩ = some (.int .i64 0) := (hb1.cell (p := ⟨w.heap.size + 1 + 1 + 1, 1, none⟩) (by first | (simp; done) | (simp; omega) | omega)).trans (by first | assumption | (simp [go_sem]; done) | simp [go_sem, *])
  have hb1_3_f : ∀ o, w1.frozen? ⟨w.heap.size + 1 + 1 + 1, o, none⟩ = false := fun o => (hb1.frozen (p := ⟨w.heap.size + 1 + 1 + 1, o, none⟩) (by first | (simp; done) | (simp; omega) | omega)).trans (by first | assumption | (simp [go_sem]; done) | simp [go_sem, *])
  have hb1_3_lt : w.heap.size + 1 + 1 + 1 < w1.heap.size := Nat.lt_of_lt_of_le (m := _) (by first | (simp; done) | (simp; omega) | omega) hb1.size
  go_wp2_with fail
  refine (H2.out _ _ (by first | (simp; done) | (simp; omega) | omega) ?c0 ?c1).mono ?_
  case c0 => exact (Below.cell (w := w1) (B := w1.heap.size) (by repeat (first | with_reducible exact Below.refl _ _ | with_reducible assumption | refine below_drewN ?_ _ | refine Below.drew ?_ | refine Below.alloc ?_ (by first | (simp; done) | (simp; omega) | omega) _ | refine Below.setCell ?_ (by first | (simp; done) | (simp; omega) | omega) _ | refine Below.trans ?_ (Below.mono (by assumption) (by first | (simp; done) | (simp; omega) | omega)))) (p := ⟨w.heap.size, 0, none⟩) (by assumption)).trans (by assumption)
  case c1 => exact (Below.cell (w := w1) (B := w1.heap.size) (by repeat (first | with_reducible exact Below.refl _ _ | with_reducible assumption | refine below_drewN ?_ _ | refine Below.drew ?_ | refine Below.alloc ?_ (by first | (simp; done) | (simp; omega) | omega) _ | refine Below.setCell ?_ (by first | (simp; done) | (simp; omega) | omega) _ | refine Below.trans ?_ (Below.mono (by assumption) (by first | (simp; done) | (simp; omega) | omega)))) (p := ⟨w.heap.size, 1, none⟩) (by assumption)).trans (by assumption)
  rintro e w2 ⟨he, hb2⟩
  unfold twoV at he
  subst he
  have hv2 : Below w1.heap.size w1 w2 := (by repeat (first | with_reducible exact Below.refl _ _ | with_reducible assumption | refine below_drewN ?_ _ | refine Below.drew ?_ | refine Below.alloc ?_ (by first | (simp; done) | (simp; omega) | omega) _ | refine Below.setCell ?_ (by first | (simp; done) | (simp; omega) | omega) _ | refine Below.trans ?_ (Below.mono (by assumption) (by first | (simp; done) | (simp; omega) | omega))))
  have hz_hv2 := hv2.size
  try simp at hz_hv2
  have hv2_3_k0 : w2.cell? ⟨w.heap.size + 1 + 1 + 1, 0, none⟩ = some (.int .i64 0) := (hv2.cell (p := ⟨w.heap.size + 1 + 1 + 1, 0, none⟩) (by first | (simp; done) | (simp; omega) | omega)).trans (by first | assumption | (simp [go_sem]; done) | simp [go_sem, *])
  have hv2_3_k1 : w2.cell? ⟨w.heap.size + 1 + 1 + 1, 1, none⟩ = some (.int .i64 0) := (hv2.cell (p := ⟨w.heap.size + 1 + 1 + 1, 1, none⟩) (by first | (simp; done) | (simp; omega) | omega)).trans (by first | assumption | (simp [go_sem]; done) | simp [go_sem, *])
  have hv2_3_f : ∀ o, w2.frozen? ⟨w.heap.size + 1 + 1 + 1, o, none⟩ = false := fun o => (hv2.frozen (p := ⟨w.heap.size + 1 + 1 + 1, o, none⟩) (by first | (simp; done) | (simp; omega) | omega)).trans (by first | assumption | (simp [go_sem]; done) | simp [go_sem, *])
  have hv2_3_lt : w.heap.size + 1 + 1 + 1 < w2.heap.size := Nat.lt_of_lt_of_le (m := _) (by first | (simp; done) | (simp; omega) | omega) hv2.size
  have lt2 : w.heap.size + 1 + 1 + 1 < w2.heap.size + 1 := by omega
  go_wp2
  refine bodyPost_ret (v := .agg #[.int .i64 e1, .int .i64 f1]) (by simp [results, Tryd.results99, go_sem, *]) rfl ?_
  exact ⟨rfl, (by repeat (first | with_reducible exact Below.refl _ _ | with_reducible assumption | refine below_drewN ?_ _ | refine Below.drew ?_ | refine Below.alloc ?_ (by first | (simp; done) | (simp; omega) | omega) _ | refine Below.setCell ?_ (by first | (simp; done) | (simp; omega) | omega) _ | refine Below.trans ?_ (Below.mono (by assumption) (by first | (simp; done) | (simp; omega) | omega))))⟩

/-- what closer returns: of two neighbours of N/D the one that is closer, the lesser one of two; the neighbours in either order -/
theorem closer_any (N D m p q r s : Int) (hv : Rt.vldP N D) (hp : Rt.vldP p q) (hr : Rt.vldP r s) (h1 : r * q - p * s = 1) (hqm : q ≤ m) (hsm : s ≤ m) (hm : m < q + s) (hmb : m ≤ 100000)
    (hl : p * D ≤ N * q) (hh : N * s ≤ r * D) (b1 : N * q - p * D ≤ 4294967296) (b2 : r * D - N * s ≤ 4294967296) :
    ∃ x y, Rt.BestOf N D m x y ∧ Rt.vldP x y ∧ (∀ w : World, Calls Tryd.prog 99 #[.agg #[.int .i64 N, .int .i64 D], .agg #[.int .i64 p, .int .i64 q], .agg #[.int .i64 r, .int .i64 s]] w fun e w' => e = .returned (.agg #[.int .i64 x, .int .i64 y]) ∧ Below w.heap.size w w') ∧
      (∀ w : World, Calls Tryd.prog 99 #[.agg #[.int .i64 N, .int .i64 D], .agg #[.int .i64 r, .int .i64 s], .agg #[.int .i64 p, .int .i64 q]] w fun e w' => e = .returned (.agg #[.int .i64 x, .int .i64 y]) ∧ Below w.heap.size w w') := by
  have ⟨v1, v2, v3, v4, _⟩ := hv
  have ⟨p1, p2, p3, p4, _⟩ := hp
  have ⟨r1, r2, r3, r4, _⟩ := hr
  have s1 : Sml N D p q := ⟨v3, v4, v1, v2, p3, p4, p1, p2⟩
  have s2 : Sml N D r s := ⟨v3, v4, v1, v2, r3, r4, r1, r2⟩
  have a1 : Rt.ab (N * q - p * D) = N * q - p * D := Rt.ab_pos (by omega)
  have a2 : Rt.ab (N * s - r * D) = r * D - N * s := by rw [Rt.ab_neg (by omega)]; omega
  have H1 := Lib.hid fun W => ord_stay p q r s hp hr (by omega) W
  have H1' := Lib.hid fun W => ord_swap r s p q hr hp (by omega) W
  by_cases hc : (r * D - N * s) * q < (N * q - p * D) * s
  · refine ⟨r, s, Rt.best_high v1 h1 p1 r1 hsm hm hl hh hc, hr, fun w => closer_core N D p q r s p q r s r s p q H1 (Lib.hid ?_) w, fun w => closer_core N D r s p q p q r s r s p q H1' (Lib.hid ?_) w⟩
    all_goals
      intro W B hB c0 c1
      exact ordc_swap N D p q r s _ _ B s1 s2 (Lib.hid a1) (Lib.hid a2) (by omega) (by omega) b1 b2 hc W hB c0 c1
  · refine ⟨p, q, Rt.best_low v1 h1 p1 r1 hqm hm hl hh (by omega), hp, fun w => closer_core N D p q r s p q r s p q r s H1 (Lib.hid ?_) w, fun w => closer_core N D r s p q p q r s p q r s H1' (Lib.hid ?_) w⟩
    all_goals
      intro W B hB c0 c1
      exact ordc_stay N D p q r s _ _ B s1 s2 (Lib.hid a1) (Lib.hid a2) (by omega) (by omega) b1 b2 hc W hB c0 c1
end Go.Proofs.YtffabmojbelaaaaDoor
