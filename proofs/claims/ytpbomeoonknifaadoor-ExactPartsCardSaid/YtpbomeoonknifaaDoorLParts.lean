/- The law ExactParts: it returns true. -/
import Derived.Test.YtpbomeoonknifaaDoorSz
import Derived.Test.YtpbomeoonknifaaDoorH
namespace Go.Proofs.YtpbomeoonknifaaDoor
open Go.RowKit Go.Shelf

set_option maxRecDepth 100000 in
set_option maxHeartbeats 2000000 in
theorem parts_bad (a b n : Int) (hv : Hid (¬ Rt.vldP a b)) (H3 : Hid (∀ W : World, Calls Tryd.prog 40 #[.agg #[.int .i64 a, .int .i64 b], .int .i64 n] W fun e w' => e = .returned (.tuple #[.agg #[.int .i64 0, .int .i64 0], .int .i64 1]) ∧ Below W.heap.size W w')) (w : World) (hT : Hid (Tab w.heap.size w)) :
    Calls Tryd.prog 5 #[.agg #[.int .i64 a, .int .i64 b], .int .i64 n] w fun e w' => e = .returned (.bool true) ∧ Below w.heap.size w w' := by
  go_enter Tryd.func5, Tryd.ntmps5
  go_wp2_with fail
  refine (floor_bad a b hv.out _).mono ?_
  rintro e W1 ⟨rfl, hb1⟩
  have k1 : W1.cell? ⟨w.heap.size, 0, none⟩ = some (.int .i64 a) := kept1 (by simp [go_sem]) hb1
  have k2 : W1.cell? ⟨w.heap.size, 1, none⟩ = some (.int .i64 b) := kept1 (by simp [go_sem]) hb1
  have lk1 : w.heap.size < W1.heap.size := block_lt_of_cell k1
  have hv1 : Below w.heap.size w W1 := bstep1 (Below.refl _ _) hb1
  clear hb1  
  go_wp2_with fail
  refine (ceil_bad a b hv.out _).mono ?_
  rintro e W2 ⟨rfl, hb2⟩
  have k3 : W2.cell? ⟨w.heap.size, 0, none⟩ = some (.int .i64 a) := kept1 k1 hb2
  have k4 : W2.cell? ⟨w.heap.size, 1, none⟩ = some (.int .i64 b) := kept1 k2 hb2
  have lk3 : w.heap.size < W2.heap.size := block_lt_of_cell k3
  have hv2 : Below w.heap.size w W2 := bstep0 hv1 hb2
  clear hb2 hv1 k1 k2 lk1
  go_wp2_with fail
  refine (H3.out _).mono ?_
  rintro e W3 ⟨rfl, hb3⟩
  have k5 : W3.cell? ⟨w.heap.size, 0, none⟩ = some (.int .i64 a) := kept1 k3 hb3
  have k6 : W3.cell? ⟨w.heap.size, 1, none⟩ = some (.int .i64 b) := kept1 k4 hb3
  have lk5 : w.heap.size < W3.heap.size := block_lt_of_cell k5
  have hv3 : Below w.heap.size w W3 := bstep0 hv2 hb3
  clear hb3 hv2 k3 k4 lk3
  go_wp2_with fail
  refine (rvalid_not a b _ hv.out).mono ?_
  rintro e W4 ⟨rfl, hb4⟩
  have k7 : W4.cell? ⟨w.heap.size, 0, none⟩ = some (.int .i64 a) := kept_a1 k5 hb4
  have k8 : W4.cell? ⟨w.heap.size, 1, none⟩ = some (.int .i64 b) := kept_a1 k6 hb4
  have k9 : W4.cell? ⟨W3.heap.size, 0, none⟩ = some (.int .i64 0) := kept1 (by simp [go_sem]) hb4
  have k10 : W4.cell? ⟨W3.heap.size, 1, none⟩ = some (.int .i64 0) := kept1 (by simp [go_sem]) hb4
  have lk7 : w.heap.size < W4.heap.size := block_lt_of_cell k7
  have lk9 : W3.heap.size < W4.heap.size := block_lt_of_cell k9
  have hv4 : Below w.heap.size w W4 := bstep1 hv3 hb4
  clear hb4 hv3 k5 k6 lk5
  go_wp2_with fail
  refine (sanity_tab hT _ hv4).mono ?_
  rintro e W5 ⟨rfl, hb5⟩
  have k11 : W5.cell? ⟨w.heap.size, 0, none⟩ = some (.int .i64 a) := kept1 k7 hb5
  have k12 : W5.cell? ⟨w.heap.size, 1, none⟩ = some (.int .i64 b) := kept1 k8 hb5
  have k13 : W5.cell? ⟨W3.heap.size, 0, none⟩ = some (.int .i64 0) := kept1 k9 hb5
  have k14 : W5.cell? ⟨W3.heap.size, 1, none⟩ = some (.int .i64 0) := kept1 k10 hb5
  have lk11 : w.heap.size < W5.heap.size := block_lt_of_cell k11
  have lk13 : W3.heap.size < W5.heap.size := block_lt_of_cell k13
  have hv5 : Below w.heap.size w W5 := bstep0 hv4 hb5
  clear hb5 hv4 k7 k8 k9 k10 lk7 lk9
  go_wp2
  go_ret
  exact ⟨by first | rfl | simp, (by repeat (first | with_reducible exact Below.refl _ _ | with_reducible assumption | refine below_drewN ?_ _ | refine Below.drew ?_ | refine Below.alloc ?_ (by first | (simp; done) | (simp; omega) | omega) _ | refine Below.setCell ?_ (by first | (simp; done) | (simp; omega) | omega) _ | refine Below.trans ?_ (Below.mono (by assumption) (by first | (simp; done) | (simp; omega) | omega))))⟩

set_option maxRecDepth 100000 in
set_option maxHeartbeats 2000000 in
theorem parts_ok (a b n x y lo hi c : Int) (hv : Hid (Rt.vldP a b)) (H1 : Hid (∀ W : World, Calls Tryd.prog 38 #[.agg #[.int .i64 a, .int .i64 b]] W fun e w' => e = .returned (.tuple #[.int .i64 x, .int .i64 0]) ∧ Below W.heap.size W w')) (H2 : Hid (∀ W : World, Calls Tryd.prog 39 #[.agg #[.int .i64 a, .int .i64 b]] W fun e w' => e = .returned (.tuple #[.int .i64 y, .int .i64 0]) ∧ Below W.heap.size W w')) (H3 : Hid (∀ W : World, Calls Tryd.prog 40 #[.agg #[.int .i64 a, .int .i64 b], .int .i64 n] W fun e w' => e = .returned (.tuple #[.agg #[.int .i64 lo, .int .i64 hi], .int .i64 c]) ∧ Below W.heap.size W w')) (K1 : Hid (∀ W : World, Calls Tryd.prog 42 #[.agg #[.int .i64 a, .int .i64 b]] W fun e w' => e = .returned (.int .i64 x) ∧ Below W.heap.size W w')) (K2 : Hid (∀ W : World, Calls Tryd.prog 43 #[.agg #[.int .i64 a, .int .i64 b]] W fun e w' => e = .returned (.int .i64 y) ∧ Below W.heap.size W w')) (K3 : Hid (∀ W : World, Calls Tryd.prog 41 #[.agg #[.int .i64 a, .int .i64 b], .int .i64 n] W fun e w' => e = .returned (.tuple #[.agg #[.int .i64 lo, .int .i64 hi], .int .i64 c]) ∧ Below W.heap.size W w')) (w : World) (hT : Hid (Tab w.heap.size w)) :
    Calls Tryd.prog 5 #[.agg #[.int .i64 a, .int .i64 b], .int .i64 n] w fun e w' => e = .returned (.bool true) ∧ Below w.heap.size w w' := by
  go_enter Tryd.func5, Tryd.ntmps5
  go_wp2_with fail
  refine (H1.out _).mono ?_
  rintro e W1 ⟨rfl, hb1⟩
  have k1 : W1.cell? ⟨w.heap.size, 0, none⟩ = some (.int .i64 a) := kept1 (by simp [go_sem]) hb1
  have k2 : W1.cell? ⟨w.heap.size, 1, none⟩ = some (.int .i64 b) := kept1 (by simp [go_sem]) hb1
  have lk1 : w.heap.size < W1.heap.size := block_lt_of_cell k1
  have hv1 : Below w.heap.size w W1 := bstep1 (Below.refl _ _) hb1
  clear hb1  
  go_wp2_with fail
  refine (H2.out _).mono ?_
  rintro e W2 ⟨rfl, hb2⟩
  have k3 : W2.cell? ⟨w.heap.size, 0, none⟩ = some (.int .i64 a) := kept1 k1 hb2
  have k4 : W2.cell? ⟨w.heap.size, 1, none⟩ = some (.int .i64 b) := kept1 k2 hb2
  have lk3 : w.heap.size < W2.heap.size := block_lt_of_cell k3
  have hv2 : Below w.heap.size w W2 := bstep0 hv1 hb2
  clear hb2 hv1 k1 k2 lk1
  go_wp2_with fail
  refine (H3.out _).mono ?_
  rintro e W3 ⟨rfl, hb3⟩
  have k5 : W3.cell? ⟨w.heap.size, 0, none⟩ = some (.int .i64 a) := kept1 k3 hb3
  have k6 : W3.cell? ⟨w.heap.size, 1, none⟩ = some (.int .i64 b) := kept1 k4 hb3
  have lk5 : w.heap.size < W3.heap.size := block_lt_of_cell k5
  have hv3 : Below w.heap.size w W3 := bstep0 hv2 hb3
  clear hb3 hv2 k3 k4 lk3
  go_wp2_with fail
  refine (rvalid_yes a b _ hv.out).mono ?_
  rintro e W4 ⟨rfl, hb4⟩
  have k7 : W4.cell? ⟨w.heap.size, 0, none⟩ = some (.int .i64 a) := kept_a1 k5 hb4
  have k8 : W4.cell? ⟨w.heap.size, 1, none⟩ = some (.int .i64 b) := kept_a1 k6 hb4
  have k9 : W4.cell? ⟨W3.heap.size, 0, none⟩ = some (.int .i64 lo) := kept1 (by simp [go_sem]) hb4
  have k10 : W4.cell? ⟨W3.heap.size, 1, none⟩ = some (.int .i64 hi) := kept1 (by simp [go_sem]) hb4
  have lk7 : w.heap.size < W4.heap.size := block_lt_of_cell k7
  have lk9 : W3.heap.size < W4.heap.size := block_lt_of_cell k9
  have hv4 : Below w.heap.size w W4 := bstep1 hv3 hb4
  clear hb4 hv3 k5 k6 lk5
  go_wp2_with fail
  refine (K3.out _).mono ?_
  rintro e W5 ⟨rfl, hb5⟩
  have k11 : W5.cell? ⟨w.heap.size, 0, none⟩ = some (.int .i64 a) := kept1 k7 hb5
  have k12 : W5.cell? ⟨w.heap.size, 1, none⟩ = some (.int .i64 b) := kept1 k8 hb5
  have k13 : W5.cell? ⟨W3.heap.size, 0, none⟩ = some (.int .i64 lo) := kept1 k9 hb5
  have k14 : W5.cell? ⟨W3.heap.size, 1, none⟩ = some (.int .i64 hi) := kept1 k10 hb5
  have lk11 : w.heap.size < W5.heap.size := block_lt_of_cell k11
  have lk13 : W3.heap.size < W5.heap.size := block_lt_of_cell k13
  have hv5 : Below w.heap.size w W5 := bstep0 hv4 hb5
  clear hb5 hv4 k7 k8 k9 k10 lk7 lk9
  go_wp2_with fail
  refine (sanity_tab hT _ (below_alloc hv5 _)).mono ?_
  rintro e W6 ⟨rfl, hb6⟩
  have k15 : W6.cell? ⟨w.heap.size, 0, none⟩ = some (.int .i64 a) := kept_a1 k11 hb6
  have k16 : W6.cell? ⟨w.heap.size, 1, none⟩ = some (.int .i64 b) := kept_a1 k12 hb6
  have k17 : W6.cell? ⟨W3.heap.size, 0, none⟩ = some (.int .i64 lo) := kept_a1 k13 hb6
  have k18 : W6.cell? ⟨W3.heap.size, 1, none⟩ = some (.int .i64 hi) := kept_a1 k14 hb6
  have k19 : W6.cell? ⟨W5.heap.size, 0, none⟩ = some (.int .i64 lo) := kept1 (by simp [go_sem]) hb6
  have k20 : W6.cell? ⟨W5.heap.size, 1, none⟩ = some (.int .i64 hi) := kept1 (by simp [go_sem]) hb6
  have lk15 : w.heap.size < W6.heap.size := block_lt_of_cell k15
  have lk17 : W3.heap.size < W6.heap.size := block_lt_of_cell k17
  have lk19 : W5.heap.size < W6.heap.size := block_lt_of_cell k19
  have hv6 : Below w.heap.size w W6 := bstep1 hv5 hb6
  clear hb6 hv5 k11 k12 k13 k14 lk11 lk13
  go_wp2_with fail
  refine (K1.out _).mono ?_
  rintro e W7 ⟨rfl, hb7⟩
  have k21 : W7.cell? ⟨w.heap.size, 0, none⟩ = some (.int .i64 a) := kept1 k15 hb7
  have k22 : W7.cell? ⟨w.heap.size, 1, none⟩ = some (.int .i64 b) := kept1 k16 hb7
  have k23 : W7.cell? ⟨W3.heap.size, 0, none⟩ = some (.int .i64 lo) := kept1 k17 hb7
  have k24 : W7.cell? ⟨W3.heap.size, 1, none⟩ = some (.int .i64 hi) := kept1 k18 hb7
  have k25 : W7.cell? ⟨W5.heap.size, 0, none⟩ = some (.int .i64 lo) := kept1 k19 hb7
  have k26 : W7.cell? ⟨W5.heap.size, 1, none⟩ = some (.int .i64 hi) := kept1 k20 hb7
  have lk21 : w.heap.size < W7.heap.size := block_lt_of_cell k21
  have lk23 : W3.heap.size < W7.heap.size := block_lt_of_cell k23
  have lk25 : W5.heap.size < W7.heap.size := block_lt_of_cell k25
  have hv7 : Below w.heap.size w W7 := bstep0 hv6 hb7
  clear hb7 hv6 k15 k16 k17 k18 k19 k20 lk15 lk17 lk19
  go_wp2_with fail
  refine (K2.out _).mono ?_
  rintro e W8 ⟨rfl, hb8⟩
  have k27 : W8.cell? ⟨w.heap.size, 0, none⟩ = some (.int .i64 a) := kept1 k21 hb8
  have k28 : W8.cell? ⟨w.heap.size, 1, none⟩ = some (.int .i64 b) := kept1 k22 hb8
  have k29 : W8.cell? ⟨W3.heap.size, 0, none⟩ = some (.int .i64 lo) := kept1 k23 hb8
  have k30 : W8.cell? ⟨W3.heap.size, 1, none⟩ = some (.int .i64 hi) := kept1 k24 hb8
  have k31 : W8.cell? ⟨W5.heap.size, 0, none⟩ = some (.int .i64 lo) := kept1 k25 hb8
  have k32 : W8.cell? ⟨W5.heap.size, 1, none⟩ = some (.int .i64 hi) := kept1 k26 hb8
  have lk27 : w.heap.size < W8.heap.size := block_lt_of_cell k27
  have lk29 : W3.heap.size < W8.heap.size := block_lt_of_cell k29
  have lk31 : W5.heap.size < W8.heap.size := block_lt_of_cell k31
  have hv8 : Below w.heap.size w W8 := bstep0 hv7 hb8
  clear hb8 hv7 k21 k22 k23 k24 k25 k26 lk21 lk23 lk25
  go_wp2
  go_ret
  exact ⟨by first | rfl | simp, (by repeat (first | with_reducible exact Below.refl _ _ | with_reducible assumption | refine below_drewN ?_ _ | refine Below.drew ?_ | refine Below.alloc ?_ (by first | (simp; done) | (simp; omega) | omega) _ | refine Below.setCell ?_ (by first | (simp; done) | (simp; omega) | omega) _ | refine Below.trans ?_ (Below.mono (by assumption) (by first | (simp; done) | (simp; omega) | omega))))⟩

theorem exactParts_true (a0 b0 a1 : Int) (_ : I64 a0) (_ : I64 b0) (_ : I64 a1) (w : World) (hT : Tab w.heap.size w) :
    Calls Tryd.prog 5 #[.agg #[.int .i64 a0, .int .i64 b0], .int .i64 a1] w fun e w' => e = .returned (.bool true) ∧ Below w.heap.size w w' := by
  by_cases h : Rt.vldP a0 b0
  · have ⟨x1, x2, x3, x4, _⟩ := h
    by_cases hn : a1 < -2147483647 ∨ 2147483647 < a1
    · exact parts_ok a0 b0 a1 _ _ 0 0 3 (Lib.hid h) (Lib.hid fun W => floor_ok a0 b0 h W) (Lib.hid fun W => ceil_ok a0 b0 h W) (Lib.hid fun W => part_far a0 b0 a1 h hn W)
        (Lib.hid fun W => rfloor_any a0 b0 (by omega) (by omega) x1 W) (Lib.hid fun W => rceil_any a0 b0 (by omega) (by omega) x1 W) (Lib.hid fun W => rpart_far a0 b0 a1 hn W) w (Lib.hid hT)
    · exact parts_ok a0 b0 a1 _ _ _ _ 0 (Lib.hid h) (Lib.hid fun W => floor_ok a0 b0 h W) (Lib.hid fun W => ceil_ok a0 b0 h W) (Lib.hid fun W => part_ok a0 b0 a1 h (by omega) (by omega) W)
        (Lib.hid fun W => rfloor_any a0 b0 (by omega) (by omega) x1 W) (Lib.hid fun W => rceil_any a0 b0 (by omega) (by omega) x1 W) (Lib.hid fun W => rpart_ok a0 b0 a1 h (by omega) (by omega) W) w (Lib.hid hT)
  · exact parts_bad a0 b0 a1 (Lib.hid h) (Lib.hid fun W => part_bad a0 b0 a1 h W) w (Lib.hid hT)
end Go.Proofs.YtpbomeoonknifaaDoor
