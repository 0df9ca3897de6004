/- Contracts of the specification's closer and Best. -/
import Derived.Test.YtpbomeoonknifaaDoorH
import Derived.Test.YtpbomeoonknifaaDoorRb
namespace Go.Proofs.YtpbomeoonknifaaDoor
open Go.RowKit

set_option maxHeartbeats 1000000 in
theorem rcloser_any (N D p q r s : Int) (t : Bool) (a1 : -300000000000000 ≤ p * D ∧ p * D ≤ 300000000000000) (a2 : -300000000000000 ≤ r * D ∧ r * D ≤ 300000000000000) (a3 : -300000000000000 ≤ N * q ∧ N * q ≤ 300000000000000) (a4 : -300000000000000 ≤ N * s ∧ N * s ≤ 300000000000000)
    (a5 : 0 ≤ (N * q - p * D) * s ∧ (N * q - p * D) * s ≤ 300000000000000) (a6 : 0 ≤ (r * D - N * s) * q ∧ (r * D - N * s) * q ≤ 300000000000000) (ht : decide ((N * q - p * D) * s ≤ (r * D - N * s) * q) = t) (w : World) :
    Calls Tryd.prog 100 #[.agg #[.int .i64 N, .int .i64 D], .int .i64 p, .int .i64 q, .int .i64 r, .int .i64 s] w fun e w' => e = .returned (.bool t) ∧ Below w.heap.size w w' := by
  replace ht := Lib.hid ht
  go_enter Tryd.func100, Tryd.ntmps100
  go_wp2
  go_ret
  exact ⟨ret_bool ht.out, (by repeat (first | with_reducible exact Below.refl _ _ | with_reducible assumption | refine below_drewN ?_ _ | refine Below.drew ?_ | refine Below.alloc ?_ (by first | (simp; done) | (simp; omega) | omega) _ | refine Below.setCell ?_ (by first | (simp; done) | (simp; omega) | omega) _ | refine Below.trans ?_ (Below.mono (by assumption) (by first | (simp; done) | (simp; omega) | omega))))⟩

set_option maxHeartbeats 400000 in
theorem rbest_arg (N D m : Int) (hm : m < 1 ∨ 100000 < m) (w : World) :
    Calls Tryd.prog 53 #[.agg #[.int .i64 N, .int .i64 D], .int .i64 m] w fun e w' => e = .returned (refV ⟨0, 0, 1⟩) ∧ Below w.heap.size w w' := by
  rcases hm with hm | hm
  all_goals
    go_enter Tryd.func53, Tryd.ntmps53
    go_wp2
    refine bodyPost_ret (v := .agg #[.int .i64 0, .int .i64 0, .int .i64 1]) (by simp [results, Tryd.results53, go_sem]) rfl ?_
    exact ⟨rfl, (by repeat (first | with_reducible exact Below.refl _ _ | with_reducible assumption | refine below_drewN ?_ _ | refine Below.drew ?_ | refine Below.alloc ?_ (by first | (simp; done) | (simp; omega) | omega) _ | refine Below.setCell ?_ (by first | (simp; done) | (simp; omega) | omega) _ | refine Below.trans ?_ (Below.mono (by assumption) (by first | (simp; done) | (simp; omega) | omega))))⟩

set_option maxHeartbeats 400000 in
theorem rbest_self (N D m : Int) (m1 : 1 ≤ m) (m2 : m ≤ 100000) (hD : D ≤ m) (w : World) :
    Calls Tryd.prog 53 #[.agg #[.int .i64 N, .int .i64 D], .int .i64 m] w fun e w' => e = .returned (refV ⟨N, D, 0⟩) ∧ Below w.heap.size w w' := by
  go_enter Tryd.func53, Tryd.ntmps53
  go_wp2
  refine bodyPost_ret (v := .agg #[.int .i64 N, .int .i64 D, .int .i64 0]) (by simp [results, Tryd.results53, go_sem]) rfl ?_
  exact ⟨rfl, (by repeat (first | with_reducible exact Below.refl _ _ | with_reducible assumption | refine below_drewN ?_ _ | refine Below.drew ?_ | refine Below.alloc ?_ (by first | (simp; done) | (simp; omega) | omega) _ | refine Below.setCell ?_ (by first | (simp; done) | (simp; omega) | omega) _ | refine Below.trans ?_ (Below.mono (by assumption) (by first | (simp; done) | (simp; omega) | omega))))⟩

set_option maxRecDepth 100000 in
set_option maxHeartbeats 2000000 in
theorem rbest_far (N D m : Int) (hv : Rt.vldP N D) (m1 : 1 ≤ m) (m2 : m ≤ 100000) (hD : m < D) (w : World) :
    Calls Tryd.prog 53 #[.agg #[.int .i64 N, .int .i64 D], .int .i64 m] w fun e w' => ∃ x y, Rt.BestOf N D m x y ∧ e = .returned (refV ⟨x, y, 0⟩) ∧ Below w.heap.size w w' := by
  have ⟨v1, v2, v3, v4, _⟩ := hv
  have hst := Lib.hid (Rt.Nb.start hv m1 hD)
  have hs1 := (hst.out.bd hv m2 hD).1
  have q1 := hs1.2.2.1
  have q2 := hs1.2.2.2.1
  clear hs1
  replace hv := Lib.hid hv
  obtain ⟨f, hf⟩ : ∃ f, N / D = f := ⟨_, rfl⟩
  rw [hf] at hst q1 q2
  replace hf := Lib.hid hf
  go_enter Tryd.func53, Tryd.ntmps53
  go_wp2_with fail
  refine (rfloor_any N D (by omega) (by omega) v1 _).mono ?_
  rintro e w1 ⟨he, hb1⟩
  rw [hf.out] at he
  subst he
  have hz_hb1 := hb1.size
  try simp at hz_hb1
  have hb1_0_k0 : w1.cell? ⟨w.heap.size, 0, none⟩ = some (.int .i64 N) := (hb1.cell (p := ⟨w.heap.size, 0, none⟩) (by first | (simp; done) | (simp; omega) | omega)).trans (by first | assumption | (simp [go_sem]; done) | simp [go_sem, *])
  have hb1_0_k1 : w1.cell? ⟨w.heap.size, 1, none⟩ = some (.int .i64 D) := (hb1.cell (p := ⟨w.heap.size, 1, none⟩) (by first | (simp; done) | (simp; omega) | omega)).trans (by first | assumption | (simp [go_sem]; done) | simp [go_sem, *])
  have hb1_0_f : ∀ o, w1.frozen? ⟨w.heap.size, o, none⟩ = false := fun o => (hb1.frozen (p := ⟨w.heap.size, o, none⟩) (by first | (simp; done) | (simp; omega) | omega)).trans (by first | assumption | (simp [go_sem]; done) | simp [go_sem, *])
  have hb1_0_lt : w.heap.size < w1.heap.size := Nat.lt_of_lt_of_le (m := _) (by first | (simp; done) | (simp; omega) | omega) hb1.size
  have hb1_1_k0 : w1.cell? ⟨w.heap.size + 1, 0, none⟩ = some (.int .i64 0) := (hb1.cell (p := ⟨w.heap.size + 1, 0, none⟩) (by first | (simp; done) | (simp; omega) | omega)).trans (by first | assumption | (simp [go_sem]; done) | simp [go_sem, *])
  have hb1_1_k1 : w1.cell? ⟨w.heap.size + 1, 1, none⟩ = some (.int .i64 0) := (hb1.cell (p := ⟨w.heap.size + 1, 1, none⟩) (by first | (simp; done) | (simp; omega) | omega)).trans (by first | assumption | (simp [go_sem]; done) | simp [go_sem, *])
  have hb1_1_k2 : w1.cell? ⟨w.heap.size + 1, 2, none⟩ = some (.int .i64 0) := (hb1.cell (p := ⟨w.heap.size + 1, 2, none⟩) (by first | (simp; done) | (simp; omega) | omega)).trans (by first | assumption | (simp [go_sem]; done) | simp [go_sem, *])
  have hb1_1_f : ∀ o, w1.frozen? ⟨w.heap.size + 1, o, none⟩ = false := fun o => (hb1.frozen (p := ⟨w.heap.size + 1, o, none⟩) (by first | (simp; done) | (simp; omega) | omega)).trans (by first | assumption | (simp [go_sem]; done) | simp [go_sem, *])
  have hb1_1_lt : w.heap.size + 1 < w1.heap.size := Nat.lt_of_lt_of_le (m := _) (by first | (simp; done) | (simp; omega) | omega) hb1.size
  have hv1 : Below w.heap.size w w1 := (by repeat (first | with_reducible exact Below.refl _ _ | with_reducible assumption | refine below_drewN ?_ _ | refine Below.drew ?_ | refine Below.alloc ?_ (by first | (simp; done) | (simp; omega) | omega) _ | refine Below.setCell ?_ (by first | (simp; done) | (simp; omega) | omega) _ | refine Below.trans ?_ (Below.mono (by assumption) (by first | (simp; done) | (simp; omega) | omega))))
  go_wp2
  go_loop [6, 7, 8, 9] (fun p q r s => ∃ P Q R S : Int, p = .int .i64 P ∧ q = .int .i64 Q ∧ r = .int .i64 R ∧ s = .int .i64 S ∧ Hid (Rt.Nb N D m P Q R S)) (fun _ q _ s => (m + 1 - (intOf q + intOf s)).toNat)
  case atStart => exact ⟨f, 1, f + 1, 1, rfl, rfl, rfl, rfl, hst⟩
  case round =>
    obtain ⟨P, Q, R, S, rfl, rfl, rfl, rfl, hnb⟩ := hrel
    have ⟨⟨c1, c2, c3, c4, _⟩, ⟨d1, d2, d3, d4, _⟩, b1, b2, b3, b4, b5, b6⟩ := hnb.out.bd hv.out m2 hD
    clear q1 q2 hst
    by_cases hc : Q + S ≤ m
    · have e1 : -600000000000000 ≤ (P + R) * D ∧ (P + R) * D ≤ 600000000000000 := by rw [Int.add_mul]; omega
      have e2 : -600000000000000 ≤ N * (Q + S) ∧ N * (Q + S) ≤ 600000000000000 := by rw [Int.mul_add]; omega
      clear b1 b2 b3 b4 b5 b6
      by_cases hl : (P + R) * D < N * (Q + S)
      · have nx := Lib.hid (hnb.out.low hc hl)
        go_wp2
        go_round
        case rel => exact ⟨P + R, Q + S, R, S, rfl, rfl, rfl, rfl, nx⟩
        case measure => simp [intOf]; omega
      · have nx := Lib.hid (hnb.out.high hv.out hD hc hl)
        go_wp2
        go_round
        case rel => exact ⟨P, Q, P + R, Q + S, rfl, rfl, rfl, rfl, nx⟩
        case measure => simp [intOf]; omega
    · by_cases hl : (N * Q - P * D) * S ≤ (R * D - N * S) * Q
      · have hbst := Lib.hid (hnb.out.best_lo v1 (by omega) hl)
        have ht : decide ((N * Q - P * D) * S ≤ (R * D - N * S) * Q) = true := by simpa using hl
        replace ht := Lib.hid ht
        clear hl
        go_wp2_with fail
        refine (rcloser_any N D P Q R S true b1 b2 b3 b4 b5 b6 ht.out _).mono ?_
        rintro e w2 ⟨rfl, hb2⟩
        have hz_hb2 := hb2.size
        try simp at hz_hb2
        have hb2_1_k0 : w2.cell? ⟨w.heap.size + 1, 0, none⟩ = some (.int .i64 0) := (hb2.cell (p := ⟨w.heap.size + 1, 0, none⟩) (by first | (simp; done) | (simp; omega) | omega)).trans (by first | assumption | (simp [go_sem]; done) | simp [go_sem, *])
        have hb2_1_k1 : w2.cell? ⟨w.heap.size + 1, 1, none⟩ = some (.int .i64 0) := (hb2.cell (p := ⟨w.heap.size + 1, 1, none⟩) (by first | (simp; done) | (simp; omega) | omega)).trans (by first | assumption | (simp [go_sem]; done) | simp [go_sem, *])
        have hb2_1_k2 : w2.cell? ⟨w.heap.size + 1, 2, none⟩ = some (.int .i64 0) := (hb2.cell (p := ⟨w.heap.size + 1, 2, none⟩) (by first | (simp; done) | (simp; omega) | omega)).trans (by first | assumption | (simp [go_sem]; done) | simp [go_sem, *])
        have hb2_1_f : ∀ o, w2.frozen? ⟨w.heap.size + 1, o, none⟩ = false := fun o => (hb2.frozen (p := ⟨w.heap.size + 1, o, none⟩) (by first | (simp; done) | (simp; omega) | omega)).trans (by first | assumption | (simp [go_sem]; done) | simp [go_sem, *])
        have hb2_1_lt : w.heap.size + 1 < w2.heap.size := Nat.lt_of_lt_of_le (m := _) (by first | (simp; done) | (simp; omega) | omega) hb2.size
        go_wp2
        refine bodyPost_ret (v := .agg #[.int .i64 P, .int .i64 Q, .int .i64 0]) (by simp [results, Tryd.results53, go_sem, *]) rfl ?_
        exact ⟨P, Q, hbst.out, rfl, (by repeat (first | with_reducible exact Below.refl _ _ | with_reducible assumption | refine below_drewN ?_ _ | refine Below.drew ?_ | refine Below.alloc ?_ (by first | (simp; done) | (simp; omega) | omega) _ | refine Below.setCell ?_ (by first | (simp; done) | (simp; omega) | omega) _ | refine Below.trans ?_ (Below.mono (by assumption) (by first | (simp; done) | (simp; omega) | omega))))⟩
      · have hbst := Lib.hid (hnb.out.best_hi v1 (by omega) hl)
        have ht : decide ((N * Q - P * D) * S ≤ (R * D - N * S) * Q) = false := by simpa using hl
        have hmk := Lib.hid (show Rt.mk R S = ⟨R, S, 0⟩ by rw [Rt.mk_eq (by omega)]; exact Rt.fit_of_vld (hnb.out.bd hv.out m2 hD).2.1)
        replace ht := Lib.hid ht
        clear hl
        go_wp2_with fail
        refine (rcloser_any N D P Q R S false b1 b2 b3 b4 b5 b6 ht.out _).mono ?_
        rintro e w2 ⟨rfl, hb2⟩
        have hz_hb2 := hb2.size
        try simp at hz_hb2
        have hb2_1_k0 : w2.cell? ⟨w.heap.size + 1, 0, none⟩ = some (.int .i64 0) := (hb2.cell (p := ⟨w.heap.size + 1, 0, none⟩) (by first | (simp; done) | (simp; omega) | omega)).trans (by first | assumption | (simp [go_sem]; done) | simp [go_sem, *])
        have hb2_1_k1 : w2.cell? ⟨w.heap.size + 1, 1, none⟩ = some (.int .i64 0) := (hb2.cell (p := ⟨w.heap.size + 1, 1, none⟩) (by first | (simp; done) | (simp; omega) | omega)).trans (by first | assumption | (simp [go_sem]; done) | simp [go_sem, *])
        have hb2_1_k2 : w2.cell? ⟨w.heap.size + 1, 2, none⟩ = some (.int .i64 0) := (hb2.cell (p := ⟨w.heap.size + 1, 2, none⟩) (by first | (simp; done) | (simp; omega) | omega)).trans (by first | assumption | (simp [go_sem]; done) | simp [go_sem, *])
        have hb2_1_f : ∀ o, w2.frozen? ⟨w.heap.size + 1, o, none⟩ = false := fun o => (hb2.frozen (p := ⟨w.heap.size + 1, o, none⟩) (by first | (simp; done) | (simp; omega) | omega)).trans (by first | assumption | (simp [go_sem]; done) | simp [go_sem, *])
        have hb2_1_lt : w.heap.size + 1 < w2.heap.size := Nat.lt_of_lt_of_le (m := _) (by first | (simp; done) | (simp; omega) | omega) hb2.size
        go_wp2_with fail
        refine (low_any R S (by omega) (by omega) (by omega) (by omega) _).mono ?_
        rintro e w3 ⟨he, hb3⟩
        rw [hmk.out] at he
        unfold refV at he
        subst he
        have hz_hb3 := hb3.size
        try simp at hz_hb3
        have hb3_1_k0 : w3.cell? ⟨w.heap.size + 1, 0, none⟩ = some (.int .i64 0) := (hb3.cell (p := ⟨w.heap.size + 1, 0, none⟩) (by first | (simp; done) | (simp; omega) | omega)).trans (by first | assumption | (simp [go_sem]; done) | simp [go_sem, *])
        have hb3_1_k1 : w3.cell? ⟨w.heap.size + 1, 1, none⟩ = some (.int .i64 0) := (hb3.cell (p := ⟨w.heap.size + 1, 1, none⟩) (by first | (simp; done) | (simp; omega) | omega)).trans (by first | assumption | (simp [go_sem]; done) | simp [go_sem, *])
        have hb3_1_k2 : w3.cell? ⟨w.heap.size + 1, 2, none⟩ = some (.int .i64 0) := (hb3.cell (p := ⟨w.heap.size + 1, 2, none⟩) (by first | (simp; done) | (simp; omega) | omega)).trans (by first | assumption | (simp [go_sem]; done) | simp [go_sem, *])
        have hb3_1_f : ∀ o, w3.frozen? ⟨w.heap.size + 1, o, none⟩ = false := fun o => (hb3.frozen (p := ⟨w.heap.size + 1, o, none⟩) (by first | (simp; done) | (simp; omega) | omega)).trans (by first | assumption | (simp [go_sem]; done) | simp [go_sem, *])
        have hb3_1_lt : w.heap.size + 1 < w3.heap.size := Nat.lt_of_lt_of_le (m := _) (by first | (simp; done) | (simp; omega) | omega) hb3.size
        go_wp2
        refine bodyPost_ret (v := .agg #[.int .i64 R, .int .i64 S, .int .i64 0]) (by simp [results, Tryd.results53, go_sem, *]) rfl ?_
        exact ⟨R, S, hbst.out, rfl, (by repeat (first | with_reducible exact Below.refl _ _ | with_reducible assumption | refine below_drewN ?_ _ | refine Below.drew ?_ | refine Below.alloc ?_ (by first | (simp; done) | (simp; omega) | omega) _ | refine Below.setCell ?_ (by first | (simp; done) | (simp; omega) | omega) _ | refine Below.trans ?_ (Below.mono (by assumption) (by first | (simp; done) | (simp; omega) | omega))))⟩
end Go.Proofs.YtpbomeoonknifaaDoor
