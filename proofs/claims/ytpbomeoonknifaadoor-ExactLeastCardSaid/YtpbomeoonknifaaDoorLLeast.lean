/- The law ExactLeast: it returns true. -/
import Derived.Test.YtpbomeoonknifaaDoorSz
import Derived.Test.YtpbomeoonknifaaDoorKl
import Derived.Test.YtpbomeoonknifaaDoorS
namespace Go.Proofs.YtpbomeoonknifaaDoor
open Go.RowKit Go.Shelf

set_option maxRecDepth 100000 in
set_option maxHeartbeats 2000000 in
theorem least_out1 (a b c d e f g h i j : Int) (hx : Hid (¬ vrP a b c d)) (w : World) (hT : Hid (Tab w.heap.size w)) :
    Calls Tryd.prog 14 #[.agg #[.int .i64 a, .int .i64 b, .int .i64 c, .int .i64 d], .agg #[.int .i64 e, .int .i64 f, .int .i64 g, .int .i64 h], .agg #[.int .i64 i, .int .i64 j]] w fun e w' => e = .returned (.bool true) ∧ Below w.heap.size w w' := by
  go_enter Tryd.func14, Tryd.ntmps14
  go_wp2_with fail
  refine (rvrange_not a b c d _ hx.out).mono ?_
  rintro e W1 ⟨rfl, hb1⟩
  have k1 : W1.cell? ⟨w.heap.size, 0, none⟩ = some (.int .i64 a) := kept1 (by simp [go_sem]) hb1
  have k2 : W1.cell? ⟨w.heap.size, 1, none⟩ = some (.int .i64 b) := kept1 (by simp [go_sem]) hb1
  have k3 : W1.cell? ⟨w.heap.size, 2, none⟩ = some (.int .i64 c) := kept1 (by simp [go_sem]) hb1
  have k4 : W1.cell? ⟨w.heap.size, 3, none⟩ = some (.int .i64 d) := kept1 (by simp [go_sem]) hb1
  have k5 : W1.cell? ⟨w.heap.size + 1, 0, none⟩ = some (.int .i64 e) := kept1 (by simp [go_sem]) hb1
  have k6 : W1.cell? ⟨w.heap.size + 1, 1, none⟩ = some (.int .i64 f) := kept1 (by simp [go_sem]) hb1
  have k7 : W1.cell? ⟨w.heap.size + 1, 2, none⟩ = some (.int .i64 g) := kept1 (by simp [go_sem]) hb1
  have k8 : W1.cell? ⟨w.heap.size + 1, 3, none⟩ = some (.int .i64 h) := kept1 (by simp [go_sem]) hb1
  have k9 : W1.cell? ⟨w.heap.size + 1 + 1, 0, none⟩ = some (.int .i64 i) := kept1 (by simp [go_sem]) hb1
  have k10 : W1.cell? ⟨w.heap.size + 1 + 1, 1, none⟩ = some (.int .i64 j) := kept1 (by simp [go_sem]) hb1
  have lk1 : w.heap.size < W1.heap.size := block_lt_of_cell k1
  have lk5 : w.heap.size + 1 < W1.heap.size := block_lt_of_cell k5
  have lk9 : w.heap.size + 1 + 1 < W1.heap.size := block_lt_of_cell k9
  have hv1 : Below w.heap.size w W1 := bstep3 (Below.refl _ _) hb1
  clear hb1  
  go_wp2_with fail
  refine (sanity_tab hT _ hv1).mono ?_
  rintro e W2 ⟨rfl, hb2⟩
  have k11 : W2.cell? ⟨w.heap.size, 0, none⟩ = some (.int .i64 a) := kept1 k1 hb2
  have k12 : W2.cell? ⟨w.heap.size, 1, none⟩ = some (.int .i64 b) := kept1 k2 hb2
  have k13 : W2.cell? ⟨w.heap.size, 2, none⟩ = some (.int .i64 c) := kept1 k3 hb2
  have k14 : W2.cell? ⟨w.heap.size, 3, none⟩ = some (.int .i64 d) := kept1 k4 hb2
  have k15 : W2.cell? ⟨w.heap.size + 1, 0, none⟩ = some (.int .i64 e) := kept1 k5 hb2
  have k16 : W2.cell? ⟨w.heap.size + 1, 1, none⟩ = some (.int .i64 f) := kept1 k6 hb2
  have k17 : W2.cell? ⟨w.heap.size + 1, 2, none⟩ = some (.int .i64 g) := kept1 k7 hb2
  have k18 : W2.cell? ⟨w.heap.size + 1, 3, none⟩ = some (.int .i64 h) := kept1 k8 hb2
  have k19 : W2.cell? ⟨w.heap.size + 1 + 1, 0, none⟩ = some (.int .i64 i) := kept1 k9 hb2
  have k20 : W2.cell? ⟨w.heap.size + 1 + 1, 1, none⟩ = some (.int .i64 j) := kept1 k10 hb2
  have lk11 : w.heap.size < W2.heap.size := block_lt_of_cell k11
  have lk15 : w.heap.size + 1 < W2.heap.size := block_lt_of_cell k15
  have lk19 : w.heap.size + 1 + 1 < W2.heap.size := block_lt_of_cell k19
  have hv2 : Below w.heap.size w W2 := bstep0 hv1 hb2
  clear hb2 hv1 k1 k2 k3 k4 k5 k6 k7 k8 k9 k10 lk1 lk5 lk9
  go_wp2
  go_ret
  exact ⟨by first | rfl | simp, (by repeat (first | with_reducible exact Below.refl _ _ | with_reducible assumption | refine below_drewN ?_ _ | refine Below.drew ?_ | refine Below.alloc ?_ (by first | (simp; done) | (simp; omega) | omega) _ | refine Below.setCell ?_ (by first | (simp; done) | (simp; omega) | omega) _ | refine Below.trans ?_ (Below.mono (by assumption) (by first | (simp; done) | (simp; omega) | omega))))⟩

set_option maxRecDepth 100000 in
set_option maxHeartbeats 2000000 in
theorem least_out2 (a b c d e f g h i j : Int) (hx : Hid (vrP a b c d)) (ha : Hid (¬ Rt.vldP i j)) (w : World) (hT : Hid (Tab w.heap.size w)) :
    Calls Tryd.prog 14 #[.agg #[.int .i64 a, .int .i64 b, .int .i64 c, .int .i64 d], .agg #[.int .i64 e, .int .i64 f, .int .i64 g, .int .i64 h], .agg #[.int .i64 i, .int .i64 j]] w fun e w' => e = .returned (.bool true) ∧ Below w.heap.size w w' := by
  go_enter Tryd.func14, Tryd.ntmps14
  go_wp2_with fail
  refine (rvrange_yes a b c d _ hx.out).mono ?_
  rintro e W1 ⟨rfl, hb1⟩
  have k1 : W1.cell? ⟨w.heap.size, 0, none⟩ = some (.int .i64 a) := kept1 (by simp [go_sem]) hb1
  have k2 : W1.cell? ⟨w.heap.size, 1, none⟩ = some (.int .i64 b) := kept1 (by simp [go_sem]) hb1
  have k3 : W1.cell? ⟨w.heap.size, 2, none⟩ = some (.int .i64 c) := kept1 (by simp [go_sem]) hb1
  have k4 : W1.cell? ⟨w.heap.size, 3, none⟩ = some (.int .i64 d) := kept1 (by simp [go_sem]) hb1
  have k5 : W1.cell? ⟨w.heap.size + 1, 0, none⟩ = some (.int .i64 e) := kept1 (by simp [go_sem]) hb1
  have k6 : W1.cell? ⟨w.heap.size + 1, 1, none⟩ = some (.int .i64 f) := kept1 (by simp [go_sem]) hb1
  have k7 : W1.cell? ⟨w.heap.size + 1, 2, none⟩ = some (.int .i64 g) := kept1 (by simp [go_sem]) hb1
  have k8 : W1.cell? ⟨w.heap.size + 1, 3, none⟩ = some (.int .i64 h) := kept1 (by simp [go_sem]) hb1
  have k9 : W1.cell? ⟨w.heap.size + 1 + 1, 0, none⟩ = some (.int .i64 i) := kept1 (by simp [go_sem]) hb1
  have k10 : W1.cell? ⟨w.heap.size + 1 + 1, 1, none⟩ = some (.int .i64 j) := kept1 (by simp [go_sem]) hb1
  have lk1 : w.heap.size < W1.heap.size := block_lt_of_cell k1
  have lk5 : w.heap.size + 1 < W1.heap.size := block_lt_of_cell k5
  have lk9 : w.heap.size + 1 + 1 < W1.heap.size := block_lt_of_cell k9
  have hv1 : Below w.heap.size w W1 := bstep3 (Below.refl _ _) hb1
  clear hb1  
  go_wp2_with fail
  refine (rvalid_not i j _ ha.out).mono ?_
  rintro e W2 ⟨rfl, hb2⟩
  have k11 : W2.cell? ⟨w.heap.size, 0, none⟩ = some (.int .i64 a) := kept1 k1 hb2
  have k12 : W2.cell? ⟨w.heap.size, 1, none⟩ = some (.int .i64 b) := kept1 k2 hb2
  have k13 : W2.cell? ⟨w.heap.size, 2, none⟩ = some (.int .i64 c) := kept1 k3 hb2
  have k14 : W2.cell? ⟨w.heap.size, 3, none⟩ = some (.int .i64 d) := kept1 k4 hb2
  have k15 : W2.cell? ⟨w.heap.size + 1, 0, none⟩ = some (.int .i64 e) := kept1 k5 hb2
  have k16 : W2.cell? ⟨w.heap.size + 1, 1, none⟩ = some (.int .i64 f) := kept1 k6 hb2
  have k17 : W2.cell? ⟨w.heap.size + 1, 2, none⟩ = some (.int .i64 g) := kept1 k7 hb2
  have k18 : W2.cell? ⟨w.heap.size + 1, 3, none⟩ = some (.int .i64 h) := kept1 k8 hb2
  have k19 : W2.cell? ⟨w.heap.size + 1 + 1, 0, none⟩ = some (.int .i64 i) := kept1 k9 hb2
  have k20 : W2.cell? ⟨w.heap.size + 1 + 1, 1, none⟩ = some (.int .i64 j) := kept1 k10 hb2
  have lk11 : w.heap.size < W2.heap.size := block_lt_of_cell k11
  have lk15 : w.heap.size + 1 < W2.heap.size := block_lt_of_cell k15
  have lk19 : w.heap.size + 1 + 1 < W2.heap.size := block_lt_of_cell k19
  have hv2 : Below w.heap.size w W2 := bstep0 hv1 hb2
  clear hb2 hv1 k1 k2 k3 k4 k5 k6 k7 k8 k9 k10 lk1 lk5 lk9
  go_wp2_with fail
  refine (sanity_tab hT _ hv2).mono ?_
  rintro e W3 ⟨rfl, hb3⟩
  have k21 : W3.cell? ⟨w.heap.size, 0, none⟩ = some (.int .i64 a) := kept1 k11 hb3
  have k22 : W3.cell? ⟨w.heap.size, 1, none⟩ = some (.int .i64 b) := kept1 k12 hb3
  have k23 : W3.cell? ⟨w.heap.size, 2, none⟩ = some (.int .i64 c) := kept1 k13 hb3
  have k24 : W3.cell? ⟨w.heap.size, 3, none⟩ = some (.int .i64 d) := kept1 k14 hb3
  have k25 : W3.cell? ⟨w.heap.size + 1, 0, none⟩ = some (.int .i64 e) := kept1 k15 hb3
  have k26 : W3.cell? ⟨w.heap.size + 1, 1, none⟩ = some (.int .i64 f) := kept1 k16 hb3
  have k27 : W3.cell? ⟨w.heap.size + 1, 2, none⟩ = some (.int .i64 g) := kept1 k17 hb3
  have k28 : W3.cell? ⟨w.heap.size + 1, 3, none⟩ = some (.int .i64 h) := kept1 k18 hb3
  have k29 : W3.cell? ⟨w.heap.size + 1 + 1, 0, none⟩ = some (.int .i64 i) := kept1 k19 hb3
  have k30 : W3.cell? ⟨w.heap.size + 1 + 1, 1, none⟩ = some (.int .i64 j) := kept1 k20 hb3
  have lk21 : w.heap.size < W3.heap.size := block_lt_of_cell k21
  have lk25 : w.heap.size + 1 < W3.heap.size := block_lt_of_cell k25
  have lk29 : w.heap.size + 1 + 1 < W3.heap.size := block_lt_of_cell k29
  have hv3 : Below w.heap.size w W3 := bstep0 hv2 hb3
  clear hb3 hv2 k11 k12 k13 k14 k15 k16 k17 k18 k19 k20 lk11 lk15 lk19
  go_wp2
  go_ret
  exact ⟨by first | rfl | simp, (by repeat (first | with_reducible exact Below.refl _ _ | with_reducible assumption | refine below_drewN ?_ _ | refine Below.drew ?_ | refine Below.alloc ?_ (by first | (simp; done) | (simp; omega) | omega) _ | refine Below.setCell ?_ (by first | (simp; done) | (simp; omega) | omega) _ | refine Below.trans ?_ (Below.mono (by assumption) (by first | (simp; done) | (simp; omega) | omega))))⟩

set_option maxRecDepth 100000 in
set_option maxHeartbeats 2000000 in
theorem least_T0 (a b c d e f g h i j : Int) (p q : Int) (hx : Hid (vrP a b c d)) (ha : Hid (Rt.vldP i j)) (HS : Hid (∀ W : World, Calls Tryd.prog 49 #[.agg #[.int .i64 a, .int .i64 b, .int .i64 c, .int .i64 d]] W fun e w' => e = .returned (.tuple #[.agg #[.int .i64 p, .int .i64 q], .int .i64 0]) ∧ Below W.heap.size W w')) (H1 : Hid (∀ W : World, Calls Tryd.prog 55 #[.agg #[.int .i64 a, .int .i64 b, .int .i64 c, .int .i64 d], .agg #[.int .i64 p, .int .i64 q]] W fun e w' => e = .returned (.bool true) ∧ Below W.heap.size W w')) (H2 : Hid (∀ W : World, Calls Tryd.prog 55 #[.agg #[.int .i64 a, .int .i64 b, .int .i64 c, .int .i64 d], .agg #[.int .i64 i, .int .i64 j]] W fun e w' => e = .returned (.bool true) ∧ Below W.heap.size W w')) (m1 : q ≤ j) (hy : Hid (¬ vrP e f g h)) (w : World) (hT : Hid (Tab w.heap.size w)) :
    Calls Tryd.prog 14 #[.agg #[.int .i64 a, .int .i64 b, .int .i64 c, .int .i64 d], .agg #[.int .i64 e, .int .i64 f, .int .i64 g, .int .i64 h], .agg #[.int .i64 i, .int .i64 j]] w fun e w' => e = .returned (.bool true) ∧ Below w.heap.size w w' := by
  go_enter Tryd.func14, Tryd.ntmps14
  go_wp2_with fail
  refine (rvrange_yes a b c d _ hx.out).mono ?_
  rintro e W1 ⟨rfl, hb1⟩
  have k1 : W1.cell? ⟨w.heap.size, 0, none⟩ = some (.int .i64 a) := kept1 (by simp [go_sem]) hb1
  have k2 : W1.cell? ⟨w.heap.size, 1, none⟩ = some (.int .i64 b) := kept1 (by simp [go_sem]) hb1
  have k3 : W1.cell? ⟨w.heap.size, 2, none⟩ = some (.int .i64 c) := kept1 (by simp [go_sem]) hb1
  have k4 : W1.cell? ⟨w.heap.size, 3, none⟩ = some (.int .i64 d) := kept1 (by simp [go_sem]) hb1
  have k5 : W1.cell? ⟨w.heap.size + 1, 0, none⟩ = some (.int .i64 e) := kept1 (by simp [go_sem]) hb1
  have k6 : W1.cell? ⟨w.heap.size + 1, 1, none⟩ = some (.int .i64 f) := kept1 (by simp [go_sem]) hb1
  have k7 : W1.cell? ⟨w.heap.size + 1, 2, none⟩ = some (.int .i64 g) := kept1 (by simp [go_sem]) hb1
  have k8 : W1.cell? ⟨w.heap.size + 1, 3, none⟩ = some (.int .i64 h) := kept1 (by simp [go_sem]) hb1
  have k9 : W1.cell? ⟨w.heap.size + 1 + 1, 0, none⟩ = some (.int .i64 i) := kept1 (by simp [go_sem]) hb1
  have k10 : W1.cell? ⟨w.heap.size + 1 + 1, 1, none⟩ = some (.int .i64 j) := kept1 (by simp [go_sem]) hb1
  have lk1 : w.heap.size < W1.heap.size := block_lt_of_cell k1
  have lk5 : w.heap.size + 1 < W1.heap.size := block_lt_of_cell k5
  have lk9 : w.heap.size + 1 + 1 < W1.heap.size := block_lt_of_cell k9
  have hv1 : Below w.heap.size w W1 := bstep3 (Below.refl _ _) hb1
  clear hb1  
  go_wp2_with fail
  refine (rvalid_yes i j _ ha.out).mono ?_
  rintro e W2 ⟨rfl, hb2⟩
  have k11 : W2.cell? ⟨w.heap.size, 0, none⟩ = some (.int .i64 a) := kept1 k1 hb2
  have k12 : W2.cell? ⟨w.heap.size, 1, none⟩ = some (.int .i64 b) := kept1 k2 hb2
  have k13 : W2.cell? ⟨w.heap.size, 2, none⟩ = some (.int .i64 c) := kept1 k3 hb2
  have k14 : W2.cell? ⟨w.heap.size, 3, none⟩ = some (.int .i64 d) := kept1 k4 hb2
  have k15 : W2.cell? ⟨w.heap.size + 1, 0, none⟩ = some (.int .i64 e) := kept1 k5 hb2
  have k16 : W2.cell? ⟨w.heap.size + 1, 1, none⟩ = some (.int .i64 f) := kept1 k6 hb2
  have k17 : W2.cell? ⟨w.heap.size + 1, 2, none⟩ = some (.int .i64 g) := kept1 k7 hb2
  have k18 : W2.cell? ⟨w.heap.size + 1, 3, none⟩ = some (.int .i64 h) := kept1 k8 hb2
  have k19 : W2.cell? ⟨w.heap.size + 1 + 1, 0, none⟩ = some (.int .i64 i) := kept1 k9 hb2
  have k20 : W2.cell? ⟨w.heap.size + 1 + 1, 1, none⟩ = some (.int .i64 j) := kept1 k10 hb2
  have lk11 : w.heap.size < W2.heap.size := block_lt_of_cell k11
  have lk15 : w.heap.size + 1 < W2.heap.size := block_lt_of_cell k15
  have lk19 : w.heap.size + 1 + 1 < W2.heap.size := block_lt_of_cell k19
  have hv2 : Below w.heap.size w W2 := bstep0 hv1 hb2
  clear hb2 hv1 k1 k2 k3 k4 k5 k6 k7 k8 k9 k10 lk1 lk5 lk9
  go_wp2_with fail
  refine (HS.out _).mono ?_
  rintro e W3 ⟨rfl, hb3⟩
  have k21 : W3.cell? ⟨w.heap.size, 0, none⟩ = some (.int .i64 a) := kept1 k11 hb3
  have k22 : W3.cell? ⟨w.heap.size, 1, none⟩ = some (.int .i64 b) := kept1 k12 hb3
  have k23 : W3.cell? ⟨w.heap.size, 2, none⟩ = some (.int .i64 c) := kept1 k13 hb3
  have k24 : W3.cell? ⟨w.heap.size, 3, none⟩ = some (.int .i64 d) := kept1 k14 hb3
  have k25 : W3.cell? ⟨w.heap.size + 1, 0, none⟩ = some (.int .i64 e) := kept1 k15 hb3
  have k26 : W3.cell? ⟨w.heap.size + 1, 1, none⟩ = some (.int .i64 f) := kept1 k16 hb3
  have k27 : W3.cell? ⟨w.heap.size + 1, 2, none⟩ = some (.int .i64 g) := kept1 k17 hb3
  have k28 : W3.cell? ⟨w.heap.size + 1, 3, none⟩ = some (.int .i64 h) := kept1 k18 hb3
  have k29 : W3.cell? ⟨w.heap.size + 1 + 1, 0, none⟩ = some (.int .i64 i) := kept1 k19 hb3
  have k30 : W3.cell? ⟨w.heap.size + 1 + 1, 1, none⟩ = some (.int .i64 j) := kept1 k20 hb3
  have lk21 : w.heap.size < W3.heap.size := block_lt_of_cell k21
  have lk25 : w.heap.size + 1 < W3.heap.size := block_lt_of_cell k25
  have lk29 : w.heap.size + 1 + 1 < W3.heap.size := block_lt_of_cell k29
  have hv3 : Below w.heap.size w W3 := bstep0 hv2 hb3
  clear hb3 hv2 k11 k12 k13 k14 k15 k16 k17 k18 k19 k20 lk11 lk15 lk19
  go_wp2_with fail
  refine (H1.out _).mono ?_
  rintro e W4 ⟨rfl, hb4⟩
  have k31 : W4.cell? ⟨w.heap.size, 0, none⟩ = some (.int .i64 a) := kept_a1 k21 hb4
  have k32 : W4.cell? ⟨w.heap.size, 1, none⟩ = some (.int .i64 b) := kept_a1 k22 hb4
  have k33 : W4.cell? ⟨w.heap.size, 2, none⟩ = some (.int .i64 c) := kept_a1 k23 hb4
  have k34 : W4.cell? ⟨w.heap.size, 3, none⟩ = some (.int .i64 d) := kept_a1 k24 hb4
  have k35 : W4.cell? ⟨w.heap.size + 1, 0, none⟩ = some (.int .i64 e) := kept_a1 k25 hb4
  have k36 : W4.cell? ⟨w.heap.size + 1, 1, none⟩ = some (.int .i64 f) := kept_a1 k26 hb4
  have k37 : W4.cell? ⟨w.heap.size + 1, 2, none⟩ = some (.int .i64 g) := kept_a1 k27 hb4
  have k38 : W4.cell? ⟨w.heap.size + 1, 3, none⟩ = some (.int .i64 h) := kept_a1 k28 hb4
  have k39 : W4.cell? ⟨w.heap.size + 1 + 1, 0, none⟩ = some (.int .i64 i) := kept_a1 k29 hb4
  have k40 : W4.cell? ⟨w.heap.size + 1 + 1, 1, none⟩ = some (.int .i64 j) := kept_a1 k30 hb4
  have k41 : W4.cell? ⟨W3.heap.size, 0, none⟩ = some (.int .i64 p) := kept1 (by simp [go_sem]) hb4
  have k42 : W4.cell? ⟨W3.heap.size, 1, none⟩ = some (.int .i64 q) := kept1 (by simp [go_sem]) hb4
  have lk31 : w.heap.size < W4.heap.size := block_lt_of_cell k31
  have lk35 : w.heap.size + 1 < W4.heap.size := block_lt_of_cell k35
  have lk39 : w.heap.size + 1 + 1 < W4.heap.size := block_lt_of_cell k39
  have lk41 : W3.heap.size < W4.heap.size := block_lt_of_cell k41
  have hv4 : Below w.heap.size w W4 := bstep1 hv3 hb4
  clear hb4 hv3 k21 k22 k23 k24 k25 k26 k27 k28 k29 k30 lk21 lk25 lk29
  go_wp2_with fail
  refine (H2.out _).mono ?_
  rintro e W5 ⟨rfl, hb5⟩
  have k43 : W5.cell? ⟨w.heap.size, 0, none⟩ = some (.int .i64 a) := kept1 k31 hb5
  have k44 : W5.cell? ⟨w.heap.size, 1, none⟩ = some (.int .i64 b) := kept1 k32 hb5
  have k45 : W5.cell? ⟨w.heap.size, 2, none⟩ = some (.int .i64 c) := kept1 k33 hb5
  have k46 : W5.cell? ⟨w.heap.size, 3, none⟩ = some (.int .i64 d) := kept1 k34 hb5
  have k47 : W5.cell? ⟨w.heap.size + 1, 0, none⟩ = some (.int .i64 e) := kept1 k35 hb5
  have k48 : W5.cell? ⟨w.heap.size + 1, 1, none⟩ = some (.int .i64 f) := kept1 k36 hb5
  have k49 : W5.cell? ⟨w.heap.size + 1, 2, none⟩ = some (.int .i64 g) := kept1 k37 hb5
  have k50 : W5.cell? ⟨w.heap.size + 1, 3, none⟩ = some (.int .i64 h) := kept1 k38 hb5
  have k51 : W5.cell? ⟨w.heap.size + 1 + 1, 0, none⟩ = some (.int .i64 i) := kept1 k39 hb5
  have k52 : W5.cell? ⟨w.heap.size + 1 + 1, 1, none⟩ = some (.int .i64 j) := kept1 k40 hb5
  have k53 : W5.cell? ⟨W3.heap.size, 0, none⟩ = some (.int .i64 p) := kept1 k41 hb5
  have k54 : W5.cell? ⟨W3.heap.size, 1, none⟩ = some (.int .i64 q) := kept1 k42 hb5
  have lk43 : w.heap.size < W5.heap.size := block_lt_of_cell k43
  have lk47 : w.heap.size + 1 < W5.heap.size := block_lt_of_cell k47
  have lk51 : w.heap.size + 1 + 1 < W5.heap.size := block_lt_of_cell k51
  have lk53 : W3.heap.size < W5.heap.size := block_lt_of_cell k53
  have hv5 : Below w.heap.size w W5 := bstep0 hv4 hb5
  clear hb5 hv4 k31 k32 k33 k34 k35 k36 k37 k38 k39 k40 k41 k42 lk31 lk35 lk39 lk41
  go_wp2_with fail
  refine (rvrange_not e f g h _ hy.out).mono ?_
  rintro e W6 ⟨rfl, hb6⟩
  have k55 : W6.cell? ⟨w.heap.size, 0, none⟩ = some (.int .i64 a) := kept1 k43 hb6
  have k56 : W6.cell? ⟨w.heap.size, 1, none⟩ = some (.int .i64 b) := kept1 k44 hb6
  have k57 : W6.cell? ⟨w.heap.size, 2, none⟩ = some (.int .i64 c) := kept1 k45 hb6
  have k58 : W6.cell? ⟨w.heap.size, 3, none⟩ = some (.int .i64 d) := kept1 k46 hb6
  have k59 : W6.cell? ⟨w.heap.size + 1, 0, none⟩ = some (.int .i64 e) := kept1 k47 hb6
  have k60 : W6.cell? ⟨w.heap.size + 1, 1, none⟩ = some (.int .i64 f) := kept1 k48 hb6
  have k61 : W6.cell? ⟨w.heap.size + 1, 2, none⟩ = some (.int .i64 g) := kept1 k49 hb6
  have k62 : W6.cell? ⟨w.heap.size + 1, 3, none⟩ = some (.int .i64 h) := kept1 k50 hb6
  have k63 : W6.cell? ⟨w.heap.size + 1 + 1, 0, none⟩ = some (.int .i64 i) := kept1 k51 hb6
  have k64 : W6.cell? ⟨w.heap.size + 1 + 1, 1, none⟩ = some (.int .i64 j) := kept1 k52 hb6
  have k65 : W6.cell? ⟨W3.heap.size, 0, none⟩ = some (.int .i64 p) := kept1 k53 hb6
  have k66 : W6.cell? ⟨W3.heap.size, 1, none⟩ = some (.int .i64 q) := kept1 k54 hb6
  have lk55 : w.heap.size < W6.heap.size := block_lt_of_cell k55
  have lk59 : w.heap.size + 1 < W6.heap.size := block_lt_of_cell k59
  have lk63 : w.heap.size + 1 + 1 < W6.heap.size := block_lt_of_cell k63
  have lk65 : W3.heap.size < W6.heap.size := block_lt_of_cell k65
  have hv6 : Below w.heap.size w W6 := bstep0 hv5 hb6
  clear hb6 hv5 k43 k44 k45 k46 k47 k48 k49 k50 k51 k52 k53 k54 lk43 lk47 lk51 lk53
  go_wp2_with fail
  refine (sanity_tab hT _ hv6).mono ?_
  rintro e W7 ⟨rfl, hb7⟩
  have k67 : W7.cell? ⟨w.heap.size, 0, none⟩ = some (.int .i64 a) := kept1 k55 hb7
  have k68 : W7.cell? ⟨w.heap.size, 1, none⟩ = some (.int .i64 b) := kept1 k56 hb7
  have k69 : W7.cell? ⟨w.heap.size, 2, none⟩ = some (.int .i64 c) := kept1 k57 hb7
  have k70 : W7.cell? ⟨w.heap.size, 3, none⟩ = some (.int .i64 d) := kept1 k58 hb7
  have k71 : W7.cell? ⟨w.heap.size + 1, 0, none⟩ = some (.int .i64 e) := kept1 k59 hb7
  have k72 : W7.cell? ⟨w.heap.size + 1, 1, none⟩ = some (.int .i64 f) := kept1 k60 hb7
  have k73 : W7.cell? ⟨w.heap.size + 1, 2, none⟩ = some (.int .i64 g) := kept1 k61 hb7
  have k74 : W7.cell? ⟨w.heap.size + 1, 3, none⟩ = some (.int .i64 h) := kept1 k62 hb7
  have k75 : W7.cell? ⟨w.heap.size + 1 + 1, 0, none⟩ = some (.int .i64 i) := kept1 k63 hb7
  have k76 : W7.cell? ⟨w.heap.size + 1 + 1, 1, none⟩ = some (.int .i64 j) := kept1 k64 hb7
  have k77 : W7.cell? ⟨W3.heap.size, 0, none⟩ = some (.int .i64 p) := kept1 k65 hb7
  have k78 : W7.cell? ⟨W3.heap.size, 1, none⟩ = some (.int .i64 q) := kept1 k66 hb7
  have lk67 : w.heap.size < W7.heap.size := block_lt_of_cell k67
  have lk71 : w.heap.size + 1 < W7.heap.size := block_lt_of_cell k71
  have lk75 : w.heap.size + 1 + 1 < W7.heap.size := block_lt_of_cell k75
  have lk77 : W3.heap.size < W7.heap.size := block_lt_of_cell k77
  have hv7 : Below w.heap.size w W7 := bstep0 hv6 hb7
  clear hb7 hv6 k55 k56 k57 k58 k59 k60 k61 k62 k63 k64 k65 k66 lk55 lk59 lk63 lk65
  go_wp2
  go_ret
  exact ⟨by first | rfl | simp, (by repeat (first | with_reducible exact Below.refl _ _ | with_reducible assumption | refine below_drewN ?_ _ | refine Below.drew ?_ | refine Below.alloc ?_ (by first | (simp; done) | (simp; omega) | omega) _ | refine Below.setCell ?_ (by first | (simp; done) | (simp; omega) | omega) _ | refine Below.trans ?_ (Below.mono (by assumption) (by first | (simp; done) | (simp; omega) | omega))))⟩

set_option maxRecDepth 100000 in
set_option maxHeartbeats 2000000 in
theorem least_T1 (a b c d e f g h i j : Int) (p q : Int) (hx : Hid (vrP a b c d)) (ha : Hid (Rt.vldP i j)) (HS : Hid (∀ W : World, Calls Tryd.prog 49 #[.agg #[.int .i64 a, .int .i64 b, .int .i64 c, .int .i64 d]] W fun e w' => e = .returned (.tuple #[.agg #[.int .i64 p, .int .i64 q], .int .i64 0]) ∧ Below W.heap.size W w')) (H1 : Hid (∀ W : World, Calls Tryd.prog 55 #[.agg #[.int .i64 a, .int .i64 b, .int .i64 c, .int .i64 d], .agg #[.int .i64 p, .int .i64 q]] W fun e w' => e = .returned (.bool true) ∧ Below W.heap.size W w')) (H2 : Hid (∀ W : World, Calls Tryd.prog 55 #[.agg #[.int .i64 a, .int .i64 b, .int .i64 c, .int .i64 d], .agg #[.int .i64 i, .int .i64 j]] W fun e w' => e = .returned (.bool true) ∧ Below W.heap.size W w')) (m1 : q ≤ j) (hy : Hid (vrP e f g h)) (H3 : Hid (∀ W : World, Calls Tryd.prog 55 #[.agg #[.int .i64 a, .int .i64 b, .int .i64 c, .int .i64 d], .agg #[.int .i64 e, .int .i64 f]] W fun e w' => e = .returned (.bool false) ∧ Below W.heap.size W w')) (w : World) (hT : Hid (Tab w.heap.size w)) :
    Calls Tryd.prog 14 #[.agg #[.int .i64 a, .int .i64 b, .int .i64 c, .int .i64 d], .agg #[.int .i64 e, .int .i64 f, .int .i64 g, .int .i64 h], .agg #[.int .i64 i, .int .i64 j]] w fun e w' => e = .returned (.bool true) ∧ Below w.heap.size w w' := by
  go_enter Tryd.func14, Tryd.ntmps14
  go_wp2_with fail
  refine (rvrange_yes a b c d _ hx.out).mono ?_
  rintro e W1 ⟨rfl, hb1⟩
  have k1 : W1.cell? ⟨w.heap.size, 0, none⟩ = some (.int .i64 a) := kept1 (by simp [go_sem]) hb1
  have k2 : W1.cell? ⟨w.heap.size, 1, none⟩ = some (.int .i64 b) := kept1 (by simp [go_sem]) hb1
  have k3 : W1.cell? ⟨w.heap.size, 2, none⟩ = some (.int .i64 c) := kept1 (by simp [go_sem]) hb1
  have k4 : W1.cell? ⟨w.heap.size, 3, none⟩ = some (.int .i64 d) := kept1 (by simp [go_sem]) hb1
  have k5 : W1.cell? ⟨w.heap.size + 1, 0, none⟩ = some (.int .i64 e) := kept1 (by simp [go_sem]) hb1
  have k6 : W1.cell? ⟨w.heap.size + 1, 1, none⟩ = some (.int .i64 f) := kept1 (by simp [go_sem]) hb1
  have k7 : W1.cell? ⟨w.heap.size + 1, 2, none⟩ = some (.int .i64 g) := kept1 (by simp [go_sem]) hb1
  have k8 : W1.cell? ⟨w.heap.size + 1, 3, none⟩ = some (.int .i64 h) := kept1 (by simp [go_sem]) hb1
  have k9 : W1.cell? ⟨w.heap.size + 1 + 1, 0, none⟩ = some (.int .i64 i) := kept1 (by simp [go_sem]) hb1
  have k10 : W1.cell? ⟨w.heap.size + 1 + 1, 1, none⟩ = some (.int .i64 j) := kept1 (by simp [go_sem]) hb1
  have lk1 : w.heap.size < W1.heap.size := block_lt_of_cell k1
  have lk5 : w.heap.size + 1 < W1.heap.size := block_lt_of_cell k5
  have lk9 : w.heap.size + 1 + 1 < W1.heap.size := block_lt_of_cell k9
  have hv1 : Below w.heap.size w W1 := bstep3 (Below.refl _ _) hb1
  clear hb1  
  go_wp2_with fail
  refine (rvalid_yes i j _ ha.out).mono ?_
  rintro e W2 ⟨rfl, hb2⟩
  have k11 : W2.cell? ⟨w.heap.size, 0, none⟩ = some (.int .i64 a) := kept1 k1 hb2
  have k12 : W2.cell? ⟨w.heap.size, 1, none⟩ = some (.int .i64 b) := kept1 k2 hb2
  have k13 : W2.cell? ⟨w.heap.size, 2, none⟩ = some (.int .i64 c) := kept1 k3 hb2
  have k14 : W2.cell? ⟨w.heap.size, 3, none⟩ = some (.int .i64 d) := kept1 k4 hb2
  have k15 : W2.cell? ⟨w.heap.size + 1, 0, none⟩ = some (.int .i64 e) := kept1 k5 hb2
  have k16 : W2.cell? ⟨w.heap.size + 1, 1, none⟩ = some (.int .i64 f) := kept1 k6 hb2
  have k17 : W2.cell? ⟨w.heap.size + 1, 2, none⟩ = some (.int .i64 g) := kept1 k7 hb2
  have k18 : W2.cell? ⟨w.heap.size + 1, 3, none⟩ = some (.int .i64 h) := kept1 k8 hb2
  have k19 : W2.cell? ⟨w.heap.size + 1 + 1, 0, none⟩ = some (.int .i64 i) := kept1 k9 hb2
  have k20 : W2.cell? ⟨w.heap.size + 1 + 1, 1, none⟩ = some (.int .i64 j) := kept1 k10 hb2
  have lk11 : w.heap.size < W2.heap.size := block_lt_of_cell k11
  have lk15 : w.heap.size + 1 < W2.heap.size := block_lt_of_cell k15
  have lk19 : w.heap.size + 1 + 1 < W2.heap.size := block_lt_of_cell k19
  have hv2 : Below w.heap.size w W2 := bstep0 hv1 hb2
  clear hb2 hv1 k1 k2 k3 k4 k5 k6 k7 k8 k9 k10 lk1 lk5 lk9
  go_wp2_with fail
  refine (HS.out _).mono ?_
  rintro e W3 ⟨rfl, hb3⟩
  have k21 : W3.cell? ⟨w.heap.size, 0, none⟩ = some (.int .i64 a) := kept1 k11 hb3
  have k22 : W3.cell? ⟨w.heap.size, 1, none⟩ = some (.int .i64 b) := kept1 k12 hb3
  have k23 : W3.cell? ⟨w.heap.size, 2, none⟩ = some (.int .i64 c) := kept1 k13 hb3
  have k24 : W3.cell? ⟨w.heap.size, 3, none⟩ = some (.int .i64 d) := kept1 k14 hb3
  have k25 : W3.cell? ⟨w.heap.size + 1, 0, none⟩ = some (.int .i64 e) := kept1 k15 hb3
  have k26 : W3.cell? ⟨w.heap.size + 1, 1, none⟩ = some (.int .i64 f) := kept1 k16 hb3
  have k27 : W3.cell? ⟨w.heap.size + 1, 2, none⟩ = some (.int .i64 g) := kept1 k17 hb3
  have k28 : W3.cell? ⟨w.heap.size + 1, 3, none⟩ = some (.int .i64 h) := kept1 k18 hb3
  have k29 : W3.cell? ⟨w.heap.size + 1 + 1, 0, none⟩ = some (.int .i64 i) := kept1 k19 hb3
  have k30 : W3.cell? ⟨w.heap.size + 1 + 1, 1, none⟩ = some (.int .i64 j) := kept1 k20 hb3
  have lk21 : w.heap.size < W3.heap.size := block_lt_of_cell k21
  have lk25 : w.heap.size + 1 < W3.heap.size := block_lt_of_cell k25
  have lk29 : w.heap.size + 1 + 1 < W3.heap.size := block_lt_of_cell k29
  have hv3 : Below w.heap.size w W3 := bstep0 hv2 hb3
  clear hb3 hv2 k11 k12 k13 k14 k15 k16 k17 k18 k19 k20 lk11 lk15 lk19
  go_wp2_with fail
  refine (H1.out _).mono ?_
  rintro e W4 ⟨rfl, hb4⟩
  have k31 : W4.cell? ⟨w.heap.size, 0, none⟩ = some (.int .i64 a) := kept_a1 k21 hb4
  have k32 : W4.cell? ⟨w.heap.size, 1, none⟩ = some (.int .i64 b) := kept_a1 k22 hb4
  have k33 : W4.cell? ⟨w.heap.size, 2, none⟩ = some (.int .i64 c) := kept_a1 k23 hb4
  have k34 : W4.cell? ⟨w.heap.size, 3, none⟩ = some (.int .i64 d) := kept_a1 k24 hb4
  have k35 : W4.cell? ⟨w.heap.size + 1, 0, none⟩ = some (.int .i64 e) := kept_a1 k25 hb4
  have k36 : W4.cell? ⟨w.heap.size + 1, 1, none⟩ = some (.int .i64 f) := kept_a1 k26 hb4
  have k37 : W4.cell? ⟨w.heap.size + 1, 2, none⟩ = some (.int .i64 g) := kept_a1 k27 hb4
  have k38 : W4.cell? ⟨w.heap.size + 1, 3, none⟩ = some (.int .i64 h) := kept_a1 k28 hb4
  have k39 : W4.cell? ⟨w.heap.size + 1 + 1, 0, none⟩ = some (.int .i64 i) := kept_a1 k29 hb4
  have k40 : W4.cell? ⟨w.heap.size + 1 + 1, 1, none⟩ = some (.int .i64 j) := kept_a1 k30 hb4
  have k41 : W4.cell? ⟨W3.heap.size, 0, none⟩ = some (.int .i64 p) := kept1 (by simp [go_sem]) hb4
  have k42 : W4.cell? ⟨W3.heap.size, 1, none⟩ = some (.int .i64 q) := kept1 (by simp [go_sem]) hb4
  have lk31 : w.heap.size < W4.heap.size := block_lt_of_cell k31
  have lk35 : w.heap.size + 1 < W4.heap.size := block_lt_of_cell k35
  have lk39 : w.heap.size + 1 + 1 < W4.heap.size := block_lt_of_cell k39
  have lk41 : W3.heap.size < W4.heap.size := block_lt_of_cell k41
  have hv4 : Below w.heap.size w W4 := bstep1 hv3 hb4
  clear hb4 hv3 k21 k22 k23 k24 k25 k26 k27 k28 k29 k30 lk21 lk25 lk29
  go_wp2_with fail
  refine (H2.out _).mono ?_
  rintro e W5 ⟨rfl, hb5⟩
  have k43 : W5.cell? ⟨w.heap.size, 0, none⟩ = some (.int .i64 a) := kept1 k31 hb5
  have k44 : W5.cell? ⟨w.heap.size, 1, none⟩ = some (.int .i64 b) := kept1 k32 hb5
  have k45 : W5.cell? ⟨w.heap.size, 2, none⟩ = some (.int .i64 c) := kept1 k33 hb5
  have k46 : W5.cell? ⟨w.heap.size, 3, none⟩ = some (.int .i64 d) := kept1 k34 hb5
  have k47 : W5.cell? ⟨w.heap.size + 1, 0, none⟩ = some (.int .i64 e) := kept1 k35 hb5
  have k48 : W5.cell? ⟨w.heap.size + 1, 1, none⟩ = some (.int .i64 f) := kept1 k36 hb5
  have k49 : W5.cell? ⟨w.heap.size + 1, 2, none⟩ = some (.int .i64 g) := kept1 k37 hb5
  have k50 : W5.cell? ⟨w.heap.size + 1, 3, none⟩ = some (.int .i64 h) := kept1 k38 hb5
  have k51 : W5.cell? ⟨w.heap.size + 1 + 1, 0, none⟩ = some (.int .i64 i) := kept1 k39 hb5
  have k52 : W5.cell? ⟨w.heap.size + 1 + 1, 1, none⟩ = some (.int .i64 j) := kept1 k40 hb5
  have k53 : W5.cell? ⟨W3.heap.size, 0, none⟩ = some (.int .i64 p) := kept1 k41 hb5
  have k54 : W5.cell? ⟨W3.heap.size, 1, none⟩ = some (.int .i64 q) := kept1 k42 hb5
  have lk43 : w.heap.size < W5.heap.size := block_lt_of_cell k43
  have lk47 : w.heap.size + 1 < W5.heap.size := block_lt_of_cell k47
  have lk51 : w.heap.size + 1 + 1 < W5.heap.size := block_lt_of_cell k51
  have lk53 : W3.heap.size < W5.heap.size := block_lt_of_cell k53
  have hv5 : Below w.heap.size w W5 := bstep0 hv4 hb5
  clear hb5 hv4 k31 k32 k33 k34 k35 k36 k37 k38 k39 k40 k41 k42 lk31 lk35 lk39 lk41
  go_wp2_with fail
  refine (rvrange_yes e f g h _ hy.out).mono ?_
  rintro e W6 ⟨rfl, hb6⟩
  have k55 : W6.cell? ⟨w.heap.size, 0, none⟩ = some (.int .i64 a) := kept1 k43 hb6
  have k56 : W6.cell? ⟨w.heap.size, 1, none⟩ = some (.int .i64 b) := kept1 k44 hb6
  have k57 : W6.cell? ⟨w.heap.size, 2, none⟩ = some (.int .i64 c) := kept1 k45 hb6
  have k58 : W6.cell? ⟨w.heap.size, 3, none⟩ = some (.int .i64 d) := kept1 k46 hb6
  have k59 : W6.cell? ⟨w.heap.size + 1, 0, none⟩ = some (.int .i64 e) := kept1 k47 hb6
  have k60 : W6.cell? ⟨w.heap.size + 1, 1, none⟩ = some (.int .i64 f) := kept1 k48 hb6
  have k61 : W6.cell? ⟨w.heap.size + 1, 2, none⟩ = some (.int .i64 g) := kept1 k49 hb6
  have k62 : W6.cell? ⟨w.heap.size + 1, 3, none⟩ = some (.int .i64 h) := kept1 k50 hb6
  have k63 : W6.cell? ⟨w.heap.size + 1 + 1, 0, none⟩ = some (.int .i64 i) := kept1 k51 hb6
  have k64 : W6.cell? ⟨w.heap.size + 1 + 1, 1, none⟩ = some (.int .i64 j) := kept1 k52 hb6
  have k65 : W6.cell? ⟨W3.heap.size, 0, none⟩ = some (.int .i64 p) := kept1 k53 hb6
  have k66 : W6.cell? ⟨W3.heap.size, 1, none⟩ = some (.int .i64 q) := kept1 k54 hb6
  have lk55 : w.heap.size < W6.heap.size := block_lt_of_cell k55
  have lk59 : w.heap.size + 1 < W6.heap.size := block_lt_of_cell k59
  have lk63 : w.heap.size + 1 + 1 < W6.heap.size := block_lt_of_cell k63
  have lk65 : W3.heap.size < W6.heap.size := block_lt_of_cell k65
  have hv6 : Below w.heap.size w W6 := bstep0 hv5 hb6
  clear hb6 hv5 k43 k44 k45 k46 k47 k48 k49 k50 k51 k52 k53 k54 lk43 lk47 lk51 lk53
  go_wp2_with fail
  refine (H3.out _).mono ?_
  rintro e W7 ⟨rfl, hb7⟩
  have k67 : W7.cell? ⟨w.heap.size, 0, none⟩ = some (.int .i64 a) := kept1 k55 hb7
  have k68 : W7.cell? ⟨w.heap.size, 1, none⟩ = some (.int .i64 b) := kept1 k56 hb7
  have k69 : W7.cell? ⟨w.heap.size, 2, none⟩ = some (.int .i64 c) := kept1 k57 hb7
  have k70 : W7.cell? ⟨w.heap.size, 3, none⟩ = some (.int .i64 d) := kept1 k58 hb7
  have k71 : W7.cell? ⟨w.heap.size + 1, 0, none⟩ = some (.int .i64 e) := kept1 k59 hb7
  have k72 : W7.cell? ⟨w.heap.size + 1, 1, none⟩ = some (.int .i64 f) := kept1 k60 hb7
  have k73 : W7.cell? ⟨w.heap.size + 1, 2, none⟩ = some (.int .i64 g) := kept1 k61 hb7
  have k74 : W7.cell? ⟨w.heap.size + 1, 3, none⟩ = some (.int .i64 h) := kept1 k62 hb7
  have k75 : W7.cell? ⟨w.heap.size + 1 + 1, 0, none⟩ = some (.int .i64 i) := kept1 k63 hb7
  have k76 : W7.cell? ⟨w.heap.size + 1 + 1, 1, none⟩ = some (.int .i64 j) := kept1 k64 hb7
  have k77 : W7.cell? ⟨W3.heap.size, 0, none⟩ = some (.int .i64 p) := kept1 k65 hb7
  have k78 : W7.cell? ⟨W3.heap.size, 1, none⟩ = some (.int .i64 q) := kept1 k66 hb7
  have lk67 : w.heap.size < W7.heap.size := block_lt_of_cell k67
  have lk71 : w.heap.size + 1 < W7.heap.size := block_lt_of_cell k71
  have lk75 : w.heap.size + 1 + 1 < W7.heap.size := block_lt_of_cell k75
  have lk77 : W3.heap.size < W7.heap.size := block_lt_of_cell k77
  have hv7 : Below w.heap.size w W7 := bstep0 hv6 hb7
  clear hb7 hv6 k55 k56 k57 k58 k59 k60 k61 k62 k63 k64 k65 k66 lk55 lk59 lk63 lk65
  go_wp2_with fail
  refine (sanity_tab hT _ hv7).mono ?_
  rintro e W8 ⟨rfl, hb8⟩
  have k79 : W8.cell? ⟨w.heap.size, 0, none⟩ = some (.int .i64 a) := kept1 k67 hb8
  have k80 : W8.cell? ⟨w.heap.size, 1, none⟩ = some (.int .i64 b) := kept1 k68 hb8
  have k81 : W8.cell? ⟨w.heap.size, 2, none⟩ = some (.int .i64 c) := kept1 k69 hb8
  have k82 : W8.cell? ⟨w.heap.size, 3, none⟩ = some (.int .i64 d) := kept1 k70 hb8
  have k83 : W8.cell? ⟨w.heap.size + 1, 0, none⟩ = some (.int .i64 e) := kept1 k71 hb8
  have k84 : W8.cell? ⟨w.heap.size + 1, 1, none⟩ = some (.int .i64 f) := kept1 k72 hb8
  have k85 : W8.cell? ⟨w.heap.size + 1, 2, none⟩ = some (.int .i64 g) := kept1 k73 hb8
  have k86 : W8.cell? ⟨w.heap.size + 1, 3, none⟩ = some (.int .i64 h) := kept1 k74 hb8
  have k87 : W8.cell? ⟨w.heap.size + 1 + 1, 0, none⟩ = some (.int .i64 i) := kept1 k75 hb8
  have k88 : W8.cell? ⟨w.heap.size + 1 + 1, 1, none⟩ = some (.int .i64 j) := kept1 k76 hb8
  have k89 : W8.cell? ⟨W3.heap.size, 0, none⟩ = some (.int .i64 p) := kept1 k77 hb8
  have k90 : W8.cell? ⟨W3.heap.size, 1, none⟩ = some (.int .i64 q) := kept1 k78 hb8
  have lk79 : w.heap.size < W8.heap.size := block_lt_of_cell k79
  have lk83 : w.heap.size + 1 < W8.heap.size := block_lt_of_cell k83
  have lk87 : w.heap.size + 1 + 1 < W8.heap.size := block_lt_of_cell k87
  have lk89 : W3.heap.size < W8.heap.size := block_lt_of_cell k89
  have hv8 : Below w.heap.size w W8 := bstep0 hv7 hb8
  clear hb8 hv7 k67 k68 k69 k70 k71 k72 k73 k74 k75 k76 k77 k78 lk67 lk71 lk75 lk77
  go_wp2
  go_ret
  exact ⟨by first | rfl | simp, (by repeat (first | with_reducible exact Below.refl _ _ | with_reducible assumption | refine below_drewN ?_ _ | refine Below.drew ?_ | refine Below.alloc ?_ (by first | (simp; done) | (simp; omega) | omega) _ | refine Below.setCell ?_ (by first | (simp; done) | (simp; omega) | omega) _ | refine Below.trans ?_ (Below.mono (by assumption) (by first | (simp; done) | (simp; omega) | omega))))⟩

set_option maxRecDepth 100000 in
set_option maxHeartbeats 2000000 in
theorem least_T2 (a b c d e f g h i j : Int) (p q : Int) (hx : Hid (vrP a b c d)) (ha : Hid (Rt.vldP i j)) (HS : Hid (∀ W : World, Calls Tryd.prog 49 #[.agg #[.int .i64 a, .int .i64 b, .int .i64 c, .int .i64 d]] W fun e w' => e = .returned (.tuple #[.agg #[.int .i64 p, .int .i64 q], .int .i64 0]) ∧ Below W.heap.size W w')) (H1 : Hid (∀ W : World, Calls Tryd.prog 55 #[.agg #[.int .i64 a, .int .i64 b, .int .i64 c, .int .i64 d], .agg #[.int .i64 p, .int .i64 q]] W fun e w' => e = .returned (.bool true) ∧ Below W.heap.size W w')) (H2 : Hid (∀ W : World, Calls Tryd.prog 55 #[.agg #[.int .i64 a, .int .i64 b, .int .i64 c, .int .i64 d], .agg #[.int .i64 i, .int .i64 j]] W fun e w' => e = .returned (.bool true) ∧ Below W.heap.size W w')) (m1 : q ≤ j) (hy : Hid (vrP e f g h)) (H3 : Hid (∀ W : World, Calls Tryd.prog 55 #[.agg #[.int .i64 a, .int .i64 b, .int .i64 c, .int .i64 d], .agg #[.int .i64 e, .int .i64 f]] W fun e w' => e = .returned (.bool true) ∧ Below W.heap.size W w')) (H4 : Hid (∀ W : World, Calls Tryd.prog 55 #[.agg #[.int .i64 a, .int .i64 b, .int .i64 c, .int .i64 d], .agg #[.int .i64 g, .int .i64 h]] W fun e w' => e = .returned (.bool false) ∧ Below W.heap.size W w')) (w : World) (hT : Hid (Tab w.heap.size w)) :
    Calls Tryd.prog 14 #[.agg #[.int .i64 a, .int .i64 b, .int .i64 c, .int .i64 d], .agg #[.int .i64 e, .int .i64 f, .int .i64 g, .int .i64 h], .agg #[.int .i64 i, .int .i64 j]] w fun e w' => e = .returned (.bool true) ∧ Below w.heap.size w w' := by
  go_enter Tryd.func14, Tryd.ntmps14
  go_wp2_with fail
  refine (rvrange_yes a b c d _ hx.out).mono ?_
  rintro e W1 ⟨rfl, hb1⟩
  have k1 : W1.cell? ⟨w.heap.size, 0, none⟩ = some (.int .i64 a) := kept1 (by simp [go_sem]) hb1
  have k2 : W1.cell? ⟨w.heap.size, 1, none⟩ = some (.int .i64 b) := kept1 (by simp [go_sem]) hb1
  have k3 : W1.cell? ⟨w.heap.size, 2, none⟩ = some (.int .i64 c) := kept1 (by simp [go_sem]) hb1
  have k4 : W1.cell? ⟨w.heap.size, 3, none⟩ = some (.int .i64 d) := kept1 (by simp [go_sem]) hb1
  have k5 : W1.cell? ⟨w.heap.size + 1, 0, none⟩ = some (.int .i64 e) := kept1 (by simp [go_sem]) hb1
  have k6 : W1.cell? ⟨w.heap.size + 1, 1, none⟩ = some (.int .i64 f) := kept1 (by simp [go_sem]) hb1
  have k7 : W1.cell? ⟨w.heap.size + 1, 2, none⟩ = some (.int .i64 g) := kept1 (by simp [go_sem]) hb1
  have k8 : W1.cell? ⟨w.heap.size + 1, 3, none⟩ = some (.int .i64 h) := kept1 (by simp [go_sem]) hb1
  have k9 : W1.cell? ⟨w.heap.size + 1 + 1, 0, none⟩ = some (.int .i64 i) := kept1 (by simp [go_sem]) hb1
  have k10 : W1.cell? ⟨w.heap.size + 1 + 1, 1, none⟩ = some (.int .i64 j) := kept1 (by simp [go_sem]) hb1
  have lk1 : w.heap.size < W1.heap.size := block_lt_of_cell k1
  have lk5 : w.heap.size + 1 < W1.heap.size := block_lt_of_cell k5
  have lk9 : w.heap.size + 1 + 1 < W1.heap.size := block_lt_of_cell k9
  have hv1 : Below w.heap.size w W1 := bstep3 (Below.refl _ _) hb1
  clear hb1  
  go_wp2_with fail
  refine (rvalid_yes i j _ ha.out).mono ?_
  rintro e W2 ⟨rfl, hb2⟩
  have k11 : W2.cell? ⟨w.heap.size, 0, none⟩ = some (.int .i64 a) := kept1 k1 hb2
  have k12 : W2.cell? ⟨w.heap.size, 1, none⟩ = some (.int .i64 b) := kept1 k2 hb2
  have k13 : W2.cell? ⟨w.heap.size, 2, none⟩ = some (.int .i64 c) := kept1 k3 hb2
  have k14 : W2.cell? ⟨w.heap.size, 3, none⟩ = some (.int .i64 d) := kept1 k4 hb2
  have k15 : W2.cell? ⟨w.heap.size + 1, 0, none⟩ = some (.int .i64 e) := kept1 k5 hb2
  have k16 : W2.cell? ⟨w.heap.size + 1, 1, none⟩ = some (.int .i64 f) := kept1 k6 hb2
  have k17 : W2.cell? ⟨w.heap.size + 1, 2, none⟩ = some (.int .i64 g) := kept1 k7 hb2
  have k18 : W2.cell? ⟨w.heap.size + 1, 3, none⟩ = some (.int .i64 h) := kept1 k8 hb2
  have k19 : W2.cell? ⟨w.heap.size + 1 + 1, 0, none⟩ = some (.int .i64 i) := kept1 k9 hb2
  have k20 : W2.cell? ⟨w.heap.size + 1 + 1, 1, none⟩ = some (.int .i64 j) := kept1 k10 hb2
  have lk11 : w.heap.size < W2.heap.size := block_lt_of_cell k11
  have lk15 : w.heap.size + 1 < W2.heap.size := block_lt_of_cell k15
  have lk19 : w.heap.size + 1 + 1 < W2.heap.size := block_lt_of_cell k19
  have hv2 : Below w.heap.size w W2 := bstep0 hv1 hb2
  clear hb2 hv1 k1 k2 k3 k4 k5 k6 k7 k8 k9 k10 lk1 lk5 lk9
  go_wp2_with fail
  refine (HS.out _).mono ?_
  rintro e W3 ⟨rfl, hb3⟩
  have k21 : W3.cell? ⟨w.heap.size, 0, none⟩ = some (.int .i64 a) := kept1 k11 hb3
  have k22 : W3.cell? ⟨w.heap.size, 1, none⟩ = some (.int .i64 b) := kept1 k12 hb3
  have k23 : W3.cell? ⟨w.heap.size, 2, none⟩ = some (.int .i64 c) := kept1 k13 hb3
  have k24 : W3.cell? ⟨w.heap.size, 3, none⟩ = some (.int .i64 d) := kept1 k14 hb3
  have k25 : W3.cell? ⟨w.heap.size + 1, 0, none⟩ = some (.int .i64 e) := kept1 k15 hb3
  have k26 : W3.cell? ⟨w.heap.size + 1, 1, none⟩ = some (.int .i64 f) := kept1 k16 hb3
  have k27 : W3.cell? ⟨w.heap.size + 1, 2, none⟩ = some (.int .i64 g) := kept1 k17 hb3
  have k28 : W3.cell? ⟨w.heap.size + 1, 3, none⟩ = some (.int .i64 h) := kept1 k18 hb3
  have k29 : W3.cell? ⟨w.heap.size + 1 + 1, 0, none⟩ = some (.int .i64 i) := kept1 k19 hb3
  have k30 : W3.cell? ⟨w.heap.size + 1 + 1, 1, none⟩ = some (.int .i64 j) := kept1 k20 hb3
  have lk21 : w.heap.size < W3.heap.size := block_lt_of_cell k21
  have lk25 : w.heap.size + 1 < W3.heap.size := block_lt_of_cell k25
  have lk29 : w.heap.size + 1 + 1 < W3.heap.size := block_lt_of_cell k29
  have hv3 : Below w.heap.size w W3 := bstep0 hv2 hb3
  clear hb3 hv2 k11 k12 k13 k14 k15 k16 k17 k18 k19 k20 lk11 lk15 lk19
  go_wp2_with fail
  refine (H1.out _).mono ?_
  rintro e W4 ⟨rfl, hb4⟩
  have k31 : W4.cell? ⟨w.heap.size, 0, none⟩ = some (.int .i64 a) := kept_a1 k21 hb4
  have k32 : W4.cell? ⟨w.heap.size, 1, none⟩ = some (.int .i64 b) := kept_a1 k22 hb4
  have k33 : W4.cell? ⟨w.heap.size, 2, none⟩ = some (.int .i64 c) := kept_a1 k23 hb4
  have k34 : W4.cell? ⟨w.heap.size, 3, none⟩ = some (.int .i64 d) := kept_a1 k24 hb4
  have k35 : W4.cell? ⟨w.heap.size + 1, 0, none⟩ = some (.int .i64 e) := kept_a1 k25 hb4
  have k36 : W4.cell? ⟨w.heap.size + 1, 1, none⟩ = some (.int .i64 f) := kept_a1 k26 hb4
  have k37 : W4.cell? ⟨w.heap.size + 1, 2, none⟩ = some (.int .i64 g) := kept_a1 k27 hb4
  have k38 : W4.cell? ⟨w.heap.size + 1, 3, none⟩ = some (.int .i64 h) := kept_a1 k28 hb4
  have k39 : W4.cell? ⟨w.heap.size + 1 + 1, 0, none⟩ = some (.int .i64 i) := kept_a1 k29 hb4
  have k40 : W4.cell? ⟨w.heap.size + 1 + 1, 1, none⟩ = some (.int .i64 j) := kept_a1 k30 hb4
  have k41 : W4.cell? ⟨W3.heap.size, 0, none⟩ = some (.int .i64 p) := kept1 (by simp [go_sem]) hb4
  have k42 : W4.cell? ⟨W3.heap.size, 1, none⟩ = some (.int .i64 q) := kept1 (by simp [go_sem]) hb4
  have lk31 : w.heap.size < W4.heap.size := block_lt_of_cell k31
  have lk35 : w.heap.size + 1 < W4.heap.size := block_lt_of_cell k35
  have lk39 : w.heap.size + 1 + 1 < W4.heap.size := block_lt_of_cell k39
  have lk41 : W3.heap.size < W4.heap.size := block_lt_of_cell k41
  have hv4 : Below w.heap.size w W4 := bstep1 hv3 hb4
  clear hb4 hv3 k21 k22 k23 k24 k25 k26 k27 k28 k29 k30 lk21 lk25 lk29
  go_wp2_with fail
  refine (H2.out _).mono ?_
  rintro e W5 ⟨rfl, hb5⟩
  have k43 : W5.cell? ⟨w.heap.size, 0, none⟩ = some (.int .i64 a) := kept1 k31 hb5
  have k44 : W5.cell? ⟨w.heap.size, 1, none⟩ = some (.int .i64 b) := kept1 k32 hb5
  have k45 : W5.cell? ⟨w.heap.size, 2, none⟩ = some (.int .i64 c) := kept1 k33 hb5
  have k46 : W5.cell? ⟨w.heap.size, 3, none⟩ = some (.int .i64 d) := kept1 k34 hb5
  have k47 : W5.cell? ⟨w.heap.size + 1, 0, none⟩ = some (.int .i64 e) := kept1 k35 hb5
  have k48 : W5.cell? ⟨w.heap.size + 1, 1, none⟩ = some (.int .i64 f) := kept1 k36 hb5
  have k49 : W5.cell? ⟨w.heap.size + 1, 2, none⟩ = some (.int .i64 g) := kept1 k37 hb5
  have k50 : W5.cell? ⟨w.heap.size + 1, 3, none⟩ = some (.int .i64 h) := kept1 k38 hb5
  have k51 : W5.cell? ⟨w.heap.size + 1 + 1, 0, none⟩ = some (.int .i64 i) := kept1 k39 hb5
  have k52 : W5.cell? ⟨w.heap.size + 1 + 1, 1, none⟩ = some (.int .i64 j) := kept1 k40 hb5
  have k53 : W5.cell? ⟨W3.heap.size, 0, none⟩ = some (.int .i64 p) := kept1 k41 hb5
  have k54 : W5.cell? ⟨W3.heap.size, 1, none⟩ = some (.int .i64 q) := kept1 k42 hb5
  have lk43 : w.heap.size < W5.heap.size := block_lt_of_cell k43
  have lk47 : w.heap.size + 1 < W5.heap.size := block_lt_of_cell k47
  have lk51 : w.heap.size + 1 + 1 < W5.heap.size := block_lt_of_cell k51
  have lk53 : W3.heap.size < W5.heap.size := block_lt_of_cell k53
  have hv5 : Below w.heap.size w W5 := bstep0 hv4 hb5
  clear hb5 hv4 k31 k32 k33 k34 k35 k36 k37 k38 k39 k40 k41 k42 lk31 lk35 lk39 lk41
  go_wp2_with fail
  refine (rvrange_yes e f g h _ hy.out).mono ?_
  rintro e W6 ⟨rfl, hb6⟩
  have k55 : W6.cell? ⟨w.heap.size, 0, none⟩ = some (.int .i64 a) := kept1 k43 hb6
  have k56 : W6.cell? ⟨w.heap.size, 1, none⟩ = some (.int .i64 b) := kept1 k44 hb6
  have k57 : W6.cell? ⟨w.heap.size, 2, none⟩ = some (.int .i64 c) := kept1 k45 hb6
  have k58 : W6.cell? ⟨w.heap.size, 3, none⟩ = some (.int .i64 d) := kept1 k46 hb6
  have k59 : W6.cell? ⟨w.heap.size + 1, 0, none⟩ = some (.int .i64 e) := kept1 k47 hb6
  have k60 : W6.cell? ⟨w.heap.size + 1, 1, none⟩ = some (.int .i64 f) := kept1 k48 hb6
  have k61 : W6.cell? ⟨w.heap.size + 1, 2, none⟩ = some (.int .i64 g) := kept1 k49 hb6
  have k62 : W6.cell? ⟨w.heap.size + 1, 3, none⟩ = some (.int .i64 h) := kept1 k50 hb6
  have k63 : W6.cell? ⟨w.heap.size + 1 + 1, 0, none⟩ = some (.int .i64 i) := kept1 k51 hb6
  have k64 : W6.cell? ⟨w.heap.size + 1 + 1, 1, none⟩ = some (.int .i64 j) := kept1 k52 hb6
  have k65 : W6.cell? ⟨W3.heap.size, 0, none⟩ = some (.int .i64 p) := kept1 k53 hb6
  have k66 : W6.cell? ⟨W3.heap.size, 1, none⟩ = some (.int .i64 q) := kept1 k54 hb6
  have lk55 : w.heap.size < W6.heap.size := block_lt_of_cell k55
  have lk59 : w.heap.size + 1 < W6.heap.size := block_lt_of_cell k59
  have lk63 : w.heap.size + 1 + 1 < W6.heap.size := block_lt_of_cell k63
  have lk65 : W3.heap.size < W6.heap.size := block_lt_of_cell k65
  have hv6 : Below w.heap.size w W6 := bstep0 hv5 hb6
  clear hb6 hv5 k43 k44 k45 k46 k47 k48 k49 k50 k51 k52 k53 k54 lk43 lk47 lk51 lk53
  go_wp2_with fail
  refine (H3.out _).mono ?_
  rintro e W7 ⟨rfl, hb7⟩
  have k67 : W7.cell? ⟨w.heap.size, 0, none⟩ = some (.int .i64 a) := kept1 k55 hb7
  have k68 : W7.cell? ⟨w.heap.size, 1, none⟩ = some (.int .i64 b) := kept1 k56 hb7
  have k69 : W7.cell? ⟨w.heap.size, 2, none⟩ = some (.int .i64 c) := kept1 k57 hb7
  have k70 : W7.cell? ⟨w.heap.size, 3, none⟩ = some (.int .i64 d) := kept1 k58 hb7
  have k71 : W7.cell? ⟨w.heap.size + 1, 0, none⟩ = some (.int .i64 e) := kept1 k59 hb7
  have k72 : W7.cell? ⟨w.heap.size + 1, 1, none⟩ = some (.int .i64 f) := kept1 k60 hb7
  have k73 : W7.cell? ⟨w.heap.size + 1, 2, none⟩ = some (.int .i64 g) := kept1 k61 hb7
  have k74 : W7.cell? ⟨w.heap.size + 1, 3, none⟩ = some (.int .i64 h) := kept1 k62 hb7
  have k75 : W7.cell? ⟨w.heap.size + 1 + 1, 0, none⟩ = some (.int .i64 i) := kept1 k63 hb7
  have k76 : W7.cell? ⟨w.heap.size + 1 + 1, 1, none⟩ = some (.int .i64 j) := kept1 k64 hb7
  have k77 : W7.cell? ⟨W3.heap.size, 0, none⟩ = some (.int .i64 p) := kept1 k65 hb7
  have k78 : W7.cell? ⟨W3.heap.size, 1, none⟩ = some (.int .i64 q) := kept1 k66 hb7
  have lk67 : w.heap.size < W7.heap.size := block_lt_of_cell k67
  have lk71 : w.heap.size + 1 < W7.heap.size := block_lt_of_cell k71
  have lk75 : w.heap.size + 1 + 1 < W7.heap.size := block_lt_of_cell k75
  have lk77 : W3.heap.size < W7.heap.size := block_lt_of_cell k77
  have hv7 : Below w.heap.size w W7 := bstep0 hv6 hb7
  clear hb7 hv6 k55 k56 k57 k58 k59 k60 k61 k62 k63 k64 k65 k66 lk55 lk59 lk63 lk65
  go_wp2_with fail
  refine (H4.out _).mono ?_
  rintro e W8 ⟨rfl, hb8⟩
  have k79 : W8.cell? ⟨w.heap.size, 0, none⟩ = some (.int .i64 a) := kept1 k67 hb8
  have k80 : W8.cell? ⟨w.heap.size, 1, none⟩ = some (.int .i64 b) := kept1 k68 hb8
  have k81 : W8.cell? ⟨w.heap.size, 2, none⟩ = some (.int .i64 c) := kept1 k69 hb8
  have k82 : W8.cell? ⟨w.heap.size, 3, none⟩ = some (.int .i64 d) := kept1 k70 hb8
  have k83 : W8.cell? ⟨w.heap.size + 1, 0, none⟩ = some (.int .i64 e) := kept1 k71 hb8
  have k84 : W8.cell? ⟨w.heap.size + 1, 1, none⟩ = some (.int .i64 f) := kept1 k72 hb8
  have k85 : W8.cell? ⟨w.heap.size + 1, 2, none⟩ = some (.int .i64 g) := kept1 k73 hb8
  have k86 : W8.cell? ⟨w.heap.size + 1, 3, none⟩ = some (.int .i64 h) := kept1 k74 hb8
  have k87 : W8.cell? ⟨w.heap.size + 1 + 1, 0, none⟩ = some (.int .i64 i) := kept1 k75 hb8
  have k88 : W8.cell? ⟨w.heap.size + 1 + 1, 1, none⟩ = some (.int .i64 j) := kept1 k76 hb8
  have k89 : W8.cell? ⟨W3.heap.size, 0, none⟩ = some (.int .i64 p) := kept1 k77 hb8
  have k90 : W8.cell? ⟨W3.heap.size, 1, none⟩ = some (.int .i64 q) := kept1 k78 hb8
  have lk79 : w.heap.size < W8.heap.size := block_lt_of_cell k79
  have lk83 : w.heap.size + 1 < W8.heap.size := block_lt_of_cell k83
  have lk87 : w.heap.size + 1 + 1 < W8.heap.size := block_lt_of_cell k87
  have lk89 : W3.heap.size < W8.heap.size := block_lt_of_cell k89
  have hv8 : Below w.heap.size w W8 := bstep0 hv7 hb8
  clear hb8 hv7 k67 k68 k69 k70 k71 k72 k73 k74 k75 k76 k77 k78 lk67 lk71 lk75 lk77
  go_wp2_with fail
  refine (sanity_tab hT _ hv8).mono ?_
  rintro e W9 ⟨rfl, hb9⟩
  have k91 : W9.cell? ⟨w.heap.size, 0, none⟩ = some (.int .i64 a) := kept1 k79 hb9
  have k92 : W9.cell? ⟨w.heap.size, 1, none⟩ = some (.int .i64 b) := kept1 k80 hb9
  have k93 : W9.cell? ⟨w.heap.size, 2, none⟩ = some (.int .i64 c) := kept1 k81 hb9
  have k94 : W9.cell? ⟨w.heap.size, 3, none⟩ = some (.int .i64 d) := kept1 k82 hb9
  have k95 : W9.cell? ⟨w.heap.size + 1, 0, none⟩ = some (.int .i64 e) := kept1 k83 hb9
  have k96 : W9.cell? ⟨w.heap.size + 1, 1, none⟩ = some (.int .i64 f) := kept1 k84 hb9
  have k97 : W9.cell? ⟨w.heap.size + 1, 2, none⟩ = some (.int .i64 g) := kept1 k85 hb9
  have k98 : W9.cell? ⟨w.heap.size + 1, 3, none⟩ = some (.int .i64 h) := kept1 k86 hb9
  have k99 : W9.cell? ⟨w.heap.size + 1 + 1, 0, none⟩ = some (.int .i64 i) := kept1 k87 hb9
  have k100 : W9.cell? ⟨w.heap.size + 1 + 1, 1, none⟩ = some (.int .i64 j) := kept1 k88 hb9
  have k101 : W9.cell? ⟨W3.heap.size, 0, none⟩ = some (.int .i64 p) := kept1 k89 hb9
  have k102 : W9.cell? ⟨W3.heap.size, 1, none⟩ = some (.int .i64 q) := kept1 k90 hb9
  have lk91 : w.heap.size < W9.heap.size := block_lt_of_cell k91
  have lk95 : w.heap.size + 1 < W9.heap.size := block_lt_of_cell k95
  have lk99 : w.heap.size + 1 + 1 < W9.heap.size := block_lt_of_cell k99
  have lk101 : W3.heap.size < W9.heap.size := block_lt_of_cell k101
  have hv9 : Below w.heap.size w W9 := bstep0 hv8 hb9
  clear hb9 hv8 k79 k80 k81 k82 k83 k84 k85 k86 k87 k88 k89 k90 lk79 lk83 lk87 lk89
  go_wp2
  go_ret
  exact ⟨by first | rfl | simp, (by repeat (first | with_reducible exact Below.refl _ _ | with_reducible assumption | refine below_drewN ?_ _ | refine Below.drew ?_ | refine Below.alloc ?_ (by first | (simp; done) | (simp; omega) | omega) _ | refine Below.setCell ?_ (by first | (simp; done) | (simp; omega) | omega) _ | refine Below.trans ?_ (Below.mono (by assumption) (by first | (simp; done) | (simp; omega) | omega))))⟩

set_option maxRecDepth 100000 in
set_option maxHeartbeats 2000000 in
theorem least_T3F (a b c d e f g h i j : Int) (p q u v : Int) (hx : Hid (vrP a b c d)) (ha : Hid (Rt.vldP i j)) (HS : Hid (∀ W : World, Calls Tryd.prog 49 #[.agg #[.int .i64 a, .int .i64 b, .int .i64 c, .int .i64 d]] W fun e w' => e = .returned (.tuple #[.agg #[.int .i64 p, .int .i64 q], .int .i64 0]) ∧ Below W.heap.size W w')) (H1 : Hid (∀ W : World, Calls Tryd.prog 55 #[.agg #[.int .i64 a, .int .i64 b, .int .i64 c, .int .i64 d], .agg #[.int .i64 p, .int .i64 q]] W fun e w' => e = .returned (.bool true) ∧ Below W.heap.size W w')) (H2 : Hid (∀ W : World, Calls Tryd.prog 55 #[.agg #[.int .i64 a, .int .i64 b, .int .i64 c, .int .i64 d], .agg #[.int .i64 i, .int .i64 j]] W fun e w' => e = .returned (.bool true) ∧ Below W.heap.size W w')) (m1 : q ≤ j) (hy : Hid (vrP e f g h)) (H3 : Hid (∀ W : World, Calls Tryd.prog 55 #[.agg #[.int .i64 a, .int .i64 b, .int .i64 c, .int .i64 d], .agg #[.int .i64 e, .int .i64 f]] W fun e w' => e = .returned (.bool true) ∧ Below W.heap.size W w')) (H4 : Hid (∀ W : World, Calls Tryd.prog 55 #[.agg #[.int .i64 a, .int .i64 b, .int .i64 c, .int .i64 d], .agg #[.int .i64 g, .int .i64 h]] W fun e w' => e = .returned (.bool true) ∧ Below W.heap.size W w')) (HR : Hid (∀ W : World, Calls Tryd.prog 49 #[.agg #[.int .i64 e, .int .i64 f, .int .i64 g, .int .i64 h]] W fun e w' => e = .returned (.tuple #[.agg #[.int .i64 u, .int .i64 v], .int .i64 0]) ∧ Below W.heap.size W w')) (m2 : q ≤ v) (H5 : Hid (∀ W : World, Calls Tryd.prog 55 #[.agg #[.int .i64 e, .int .i64 f, .int .i64 g, .int .i64 h], .agg #[.int .i64 p, .int .i64 q]] W fun e w' => e = .returned (.bool false) ∧ Below W.heap.size W w')) (w : World) (hT : Hid (Tab w.heap.size w)) :
    Calls Tryd.prog 14 #[.agg #[.int .i64 a, .int .i64 b, .int .i64 c, .int .i64 d], .agg #[.int .i64 e, .int .i64 f, .int .i64 g, .int .i64 h], .agg #[.int .i64 i, .int .i64 j]] w fun e w' => e = .returned (.bool true) ∧ Below w.heap.size w w' := by
  go_enter Tryd.func14, Tryd.ntmps14
  go_wp2_with fail
  refine (rvrange_yes a b c d _ hx.out).mono ?_
  rintro e W1 ⟨rfl, hb1⟩
  have k1 : W1.cell? ⟨w.heap.size, 0, none⟩ = some (.int .i64 a) := kept1 (by simp [go_sem]) hb1
  have k2 : W1.cell? ⟨w.heap.size, 1, none⟩ = some (.int .i64 b) := kept1 (by simp [go_sem]) hb1
  have k3 : W1.cell? ⟨w.heap.size, 2, none⟩ = some (.int .i64 c) := kept1 (by simp [go_sem]) hb1
  have k4 : W1.cell? ⟨w.heap.size, 3, none⟩ = some (.int .i64 d) := kept1 (by simp [go_sem]) hb1
  have k5 : W1.cell? ⟨w.heap.size + 1, 0, none⟩ = some (.int .i64 e) := kept1 (by simp [go_sem]) hb1
  have k6 : W1.cell? ⟨w.heap.size + 1, 1, none⟩ = some (.int .i64 f) := kept1 (by simp [go_sem]) hb1
  have k7 : W1.cell? ⟨w.heap.size + 1, 2, none⟩ = some (.int .i64 g) := kept1 (by simp [go_sem]) hb1
  have k8 : W1.cell? ⟨w.heap.size + 1, 3, none⟩ = some (.int .i64 h) := kept1 (by simp [go_sem]) hb1
  have k9 : W1.cell? ⟨w.heap.size + 1 + 1, 0, none⟩ = some (.int .i64 i) := kept1 (by simp [go_sem]) hb1
  have k10 : W1.cell? ⟨w.heap.size + 1 + 1, 1, none⟩ = some (.int .i64 j) := kept1 (by simp [go_sem]) hb1
  have lk1 : w.heap.size < W1.heap.size := block_lt_of_cell k1
  have lk5 : w.heap.size + 1 < W1.heap.size := block_lt_of_cell k5
  have lk9 : w.heap.size + 1 + 1 < W1.heap.size := block_lt_of_cell k9
  have hv1 : Below w.heap.size w W1 := bstep3 (Below.refl _ _) hb1
  clear hb1  
  go_wp2_with fail
  refine (rvalid_yes i j _ ha.out).mono ?_
  rintro e W2 ⟨rfl, hb2⟩
  have k11 : W2.cell? ⟨w.heap.size, 0, none⟩ = some (.int .i64 a) := kept1 k1 hb2
  have k12 : W2.cell? ⟨w.heap.size, 1, none⟩ = some (.int .i64 b) := kept1 k2 hb2
  have k13 : W2.cell? ⟨w.heap.size, 2, none⟩ = some (.int .i64 c) := kept1 k3 hb2
  have k14 : W2.cell? ⟨w.heap.size, 3, none⟩ = some (.int .i64 d) := kept1 k4 hb2
  have k15 : W2.cell? ⟨w.heap.size + 1, 0, none⟩ = some (.int .i64 e) := kept1 k5 hb2
  have k16 : W2.cell? ⟨w.heap.size + 1, 1, none⟩ = some (.int .i64 f) := kept1 k6 hb2
  have k17 : W2.cell? ⟨w.heap.size + 1, 2, none⟩ = some (.int .i64 g) := kept1 k7 hb2
  have k18 : W2.cell? ⟨w.heap.size + 1, 3, none⟩ = some (.int .i64 h) := kept1 k8 hb2
  have k19 : W2.cell? ⟨w.heap.size + 1 + 1, 0, none⟩ = some (.int .i64 i) := kept1 k9 hb2
  have k20 : W2.cell? ⟨w.heap.size + 1 + 1, 1, none⟩ = some (.int .i64 j) := kept1 k10 hb2
  have lk11 : w.heap.size < W2.heap.size := block_lt_of_cell k11
  have lk15 : w.heap.size + 1 < W2.heap.size := block_lt_of_cell k15
  have lk19 : w.heap.size + 1 + 1 < W2.heap.size := block_lt_of_cell k19
  have hv2 : Below w.heap.size w W2 := bstep0 hv1 hb2
  clear hb2 hv1 k1 k2 k3 k4 k5 k6 k7 k8 k9 k10 lk1 lk5 lk9
  go_wp2_with fail
  refine (HS.out _).mono ?_
  rintro e W3 ⟨rfl, hb3⟩
  have k21 : W3.cell? ⟨w.heap.size, 0, none⟩ = some (.int .i64 a) := kept1 k11 hb3
  have k22 : W3.cell? ⟨w.heap.size, 1, none⟩ = some (.int .i64 b) := kept1 k12 hb3
  have k23 : W3.cell? ⟨w.heap.size, 2, none⟩ = some (.int .i64 c) := kept1 k13 hb3
  have k24 : W3.cell? ⟨w.heap.size, 3, none⟩ = some (.int .i64 d) := kept1 k14 hb3
  have k25 : W3.cell? ⟨w.heap.size + 1, 0, none⟩ = some (.int .i64 e) := kept1 k15 hb3
  have k26 : W3.cell? ⟨w.heap.size + 1, 1, none⟩ = some (.int .i64 f) := kept1 k16 hb3
  have k27 : W3.cell? ⟨w.heap.size + 1, 2, none⟩ = some (.int .i64 g) := kept1 k17 hb3
  have k28 : W3.cell? ⟨w.heap.size + 1, 3, none⟩ = some (.int .i64 h) := kept1 k18 hb3
  have k29 : W3.cell? ⟨w.heap.size + 1 + 1, 0, none⟩ = some (.int .i64 i) := kept1 k19 hb3
  have k30 : W3.cell? ⟨w.heap.size + 1 + 1, 1, none⟩ = some (.int .i64 j) := kept1 k20 hb3
  have lk21 : w.heap.size < W3.heap.size := block_lt_of_cell k21
  have lk25 : w.heap.size + 1 < W3.heap.size := block_lt_of_cell k25
  have lk29 : w.heap.size + 1 + 1 < W3.heap.size := block_lt_of_cell k29
  have hv3 : Below w.heap.size w W3 := bstep0 hv2 hb3
  clear hb3 hv2 k11 k12 k13 k14 k15 k16 k17 k18 k19 k20 lk11 lk15 lk19
  go_wp2_with fail
  refine (H1.out _).mono ?_
  rintro e W4 ⟨rfl, hb4⟩
  have k31 : W4.cell? ⟨w.heap.size, 0, none⟩ = some (.int .i64 a) := kept_a1 k21 hb4
  have k32 : W4.cell? ⟨w.heap.size, 1, none⟩ = some (.int .i64 b) := kept_a1 k22 hb4
  have k33 : W4.cell? ⟨w.heap.size, 2, none⟩ = some (.int .i64 c) := kept_a1 k23 hb4
  have k34 : W4.cell? ⟨w.heap.size, 3, none⟩ = some (.int .i64 d) := kept_a1 k24 hb4
  have k35 : W4.cell? ⟨w.heap.size + 1, 0, none⟩ = some (.int .i64 e) := kept_a1 k25 hb4
  have k36 : W4.cell? ⟨w.heap.size + 1, 1, none⟩ = some (.int .i64 f) := kept_a1 k26 hb4
  have k37 : W4.cell? ⟨w.heap.size + 1, 2, none⟩ = some (.int .i64 g) := kept_a1 k27 hb4
  have k38 : W4.cell? ⟨w.heap.size + 1, 3, none⟩ = some (.int .i64 h) := kept_a1 k28 hb4
  have k39 : W4.cell? ⟨w.heap.size + 1 + 1, 0, none⟩ = some (.int .i64 i) := kept_a1 k29 hb4
  have k40 : W4.cell? ⟨w.heap.size + 1 + 1, 1, none⟩ = some (.int .i64 j) := kept_a1 k30 hb4
  have k41 : W4.cell? ⟨W3.heap.size, 0, none⟩ = some (.int .i64 p) := kept1 (by simp [go_sem]) hb4
  have k42 : W4.cell? ⟨W3.heap.size, 1, none⟩ = some (.int .i64 q) := kept1 (by simp [go_sem]) hb4
  have lk31 : w.heap.size < W4.heap.size := block_lt_of_cell k31
  have lk35 : w.heap.size + 1 < W4.heap.size := block_lt_of_cell k35
  have lk39 : w.heap.size + 1 + 1 < W4.heap.size := block_lt_of_cell k39
  have lk41 : W3.heap.size < W4.heap.size := block_lt_of_cell k41
  have hv4 : Below w.heap.size w W4 := bstep1 hv3 hb4
  clear hb4 hv3 k21 k22 k23 k24 k25 k26 k27 k28 k29 k30 lk21 lk25 lk29
  go_wp2_with fail
  refine (H2.out _).mono ?_
  rintro e W5 ⟨rfl, hb5⟩
  have k43 : W5.cell? ⟨w.heap.size, 0, none⟩ = some (.int .i64 a) := kept1 k31 hb5
  have k44 : W5.cell? ⟨w.heap.size, 1, none⟩ = some (.int .i64 b) := kept1 k32 hb5
  have k45 : W5.cell? ⟨w.heap.size, 2, none⟩ = some (.int .i64 c) := kept1 k33 hb5
  have k46 : W5.cell? ⟨w.heap.size, 3, none⟩ = some (.int .i64 d) := kept1 k34 hb5
  have k47 : W5.cell? ⟨w.heap.size + 1, 0, none⟩ = some (.int .i64 e) := kept1 k35 hb5
  have k48 : W5.cell? ⟨w.heap.size + 1, 1, none⟩ = some (.int .i64 f) := kept1 k36 hb5
  have k49 : W5.cell? ⟨w.heap.size + 1, 2, none⟩ = some (.int .i64 g) := kept1 k37 hb5
  have k50 : W5.cell? ⟨w.heap.size + 1, 3, none⟩ = some (.int .i64 h) := kept1 k38 hb5
  have k51 : W5.cell? ⟨w.heap.size + 1 + 1, 0, none⟩ = some (.int .i64 i) := kept1 k39 hb5
  have k52 : W5.cell? ⟨w.heap.size + 1 + 1, 1, none⟩ = some (.int .i64 j) := kept1 k40 hb5
  have k53 : W5.cell? ⟨W3.heap.size, 0, none⟩ = some (.int .i64 p) := kept1 k41 hb5
  have k54 : W5.cell? ⟨W3.heap.size, 1, none⟩ = some (.int .i64 q) := kept1 k42 hb5
  have lk43 : w.heap.size < W5.heap.size := block_lt_of_cell k43
  have lk47 : w.heap.size + 1 < W5.heap.size := block_lt_of_cell k47
  have lk51 : w.heap.size + 1 + 1 < W5.heap.size := block_lt_of_cell k51
  have lk53 : W3.heap.size < W5.heap.size := block_lt_of_cell k53
  have hv5 : Below w.heap.size w W5 := bstep0 hv4 hb5
  clear hb5 hv4 k31 k32 k33 k34 k35 k36 k37 k38 k39 k40 k41 k42 lk31 lk35 lk39 lk41
  go_wp2_with fail
  refine (rvrange_yes e f g h _ hy.out).mono ?_
  rintro e W6 ⟨rfl, hb6⟩
  have k55 : W6.cell? ⟨w.heap.size, 0, none⟩ = some (.int .i64 a) := kept1 k43 hb6
  have k56 : W6.cell? ⟨w.heap.size, 1, none⟩ = some (.int .i64 b) := kept1 k44 hb6
  have k57 : W6.cell? ⟨w.heap.size, 2, none⟩ = some (.int .i64 c) := kept1 k45 hb6
  have k58 : W6.cell? ⟨w.heap.size, 3, none⟩ = some (.int .i64 d) := kept1 k46 hb6
  have k59 : W6.cell? ⟨w.heap.size + 1, 0, none⟩ = some (.int .i64 e) := kept1 k47 hb6
  have k60 : W6.cell? ⟨w.heap.size + 1, 1, none⟩ = some (.int .i64 f) := kept1 k48 hb6
  have k61 : W6.cell? ⟨w.heap.size + 1, 2, none⟩ = some (.int .i64 g) := kept1 k49 hb6
  have k62 : W6.cell? ⟨w.heap.size + 1, 3, none⟩ = some (.int .i64 h) := kept1 k50 hb6
  have k63 : W6.cell? ⟨w.heap.size + 1 + 1, 0, none⟩ = some (.int .i64 i) := kept1 k51 hb6
  have k64 : W6.cell? ⟨w.heap.size + 1 + 1, 1, none⟩ = some (.int .i64 j) := kept1 k52 hb6
  have k65 : W6.cell? ⟨W3.heap.size, 0, none⟩ = some (.int .i64 p) := kept1 k53 hb6
  have k66 : W6.cell? ⟨W3.heap.size, 1, none⟩ = some (.int .i64 q) := kept1 k54 hb6
  have lk55 : w.heap.size < W6.heap.size := block_lt_of_cell k55
  have lk59 : w.heap.size + 1 < W6.heap.size := block_lt_of_cell k59
  have lk63 : w.heap.size + 1 + 1 < W6.heap.size := block_lt_of_cell k63
  have lk65 : W3.heap.size < W6.heap.size := block_lt_of_cell k65
  have hv6 : Below w.heap.size w W6 := bstep0 hv5 hb6
  clear hb6 hv5 k43 k44 k45 k46 k47 k48 k49 k50 k51 k52 k53 k54 lk43 lk47 lk51 lk53
  go_wp2_with fail
  refine (H3.out _).mono ?_
  rintro e W7 ⟨rfl, hb7⟩
  have k67 : W7.cell? ⟨w.heap.size, 0, none⟩ = some (.int .i64 a) := kept1 k55 hb7
  have k68 : W7.cell? ⟨w.heap.size, 1, none⟩ = some (.int .i64 b) := kept1 k56 hb7
  have k69 : W7.cell? ⟨w.heap.size, 2, none⟩ = some (.int .i64 c) := kept1 k57 hb7
  have k70 : W7.cell? ⟨w.heap.size, 3, none⟩ = some (.int .i64 d) := kept1 k58 hb7
  have k71 : W7.cell? ⟨w.heap.size + 1, 0, none⟩ = some (.int .i64 e) := kept1 k59 hb7
  have k72 : W7.cell? ⟨w.heap.size + 1, 1, none⟩ = some (.int .i64 f) := kept1 k60 hb7
  have k73 : W7.cell? ⟨w.heap.size + 1, 2, none⟩ = some (.int .i64 g) := kept1 k61 hb7
  have k74 : W7.cell? ⟨w.heap.size + 1, 3, none⟩ = some (.int .i64 h) := kept1 k62 hb7
  have k75 : W7.cell? ⟨w.heap.size + 1 + 1, 0, none⟩ = some (.int .i64 i) := kept1 k63 hb7
  have k76 : W7.cell? ⟨w.heap.size + 1 + 1, 1, none⟩ = some (.int .i64 j) := kept1 k64 hb7
  have k77 : W7.cell? ⟨W3.heap.size, 0, none⟩ = some (.int .i64 p) := kept1 k65 hb7
  have k78 : W7.cell? ⟨W3.heap.size, 1, none⟩ = some (.int .i64 q) := kept1 k66 hb7
  have lk67 : w.heap.size < W7.heap.size := block_lt_of_cell k67
  have lk71 : w.heap.size + 1 < W7.heap.size := block_lt_of_cell k71
  have lk75 : w.heap.size + 1 + 1 < W7.heap.size := block_lt_of_cell k75
  have lk77 : W3.heap.size < W7.heap.size := block_lt_of_cell k77
  have hv7 : Below w.heap.size w W7 := bstep0 hv6 hb7
  clear hb7 hv6 k55 k56 k57 k58 k59 k60 k61 k62 k63 k64 k65 k66 lk55 lk59 lk63 lk65
  go_wp2_with fail
  refine (H4.out _).mono ?_
  rintro e W8 ⟨rfl, hb8⟩
  have k79 : W8.cell? ⟨w.heap.size, 0, none⟩ = some (.int .i64 a) := kept1 k67 hb8
  have k80 : W8.cell? ⟨w.heap.size, 1, none⟩ = some (.int .i64 b) := kept1 k68 hb8
  have k81 : W8.cell? ⟨w.heap.size, 2, none⟩ = some (.int .i64 c) := kept1 k69 hb8
  have k82 : W8.cell? ⟨w.heap.size, 3, none⟩ = some (.int .i64 d) := kept1 k70 hb8
  have k83 : W8.cell? ⟨w.heap.size + 1, 0, none⟩ = some (.int .i64 e) := kept1 k71 hb8
  have k84 : W8.cell? ⟨w.heap.size + 1, 1, none⟩ = some (.int .i64 f) := kept1 k72 hb8
  have k85 : W8.cell? ⟨w.heap.size + 1, 2, none⟩ = some (.int .i64 g) := kept1 k73 hb8
  have k86 : W8.cell? ⟨w.heap.size + 1, 3, none⟩ = some (.int .i64 h) := kept1 k74 hb8
  have k87 : W8.cell? ⟨w.heap.size + 1 + 1, 0, none⟩ = some (.int .i64 i) := kept1 k75 hb8
  have k88 : W8.cell? ⟨w.heap.size + 1 + 1, 1, none⟩ = some (.int .i64 j) := kept1 k76 hb8
  have k89 : W8.cell? ⟨W3.heap.size, 0, none⟩ = some (.int .i64 p) := kept1 k77 hb8
  have k90 : W8.cell? ⟨W3.heap.size, 1, none⟩ = some (.int .i64 q) := kept1 k78 hb8
  have lk79 : w.heap.size < W8.heap.size := block_lt_of_cell k79
  have lk83 : w.heap.size + 1 < W8.heap.size := block_lt_of_cell k83
  have lk87 : w.heap.size + 1 + 1 < W8.heap.size := block_lt_of_cell k87
  have lk89 : W3.heap.size < W8.heap.size := block_lt_of_cell k89
  have hv8 : Below w.heap.size w W8 := bstep0 hv7 hb8
  clear hb8 hv7 k67 k68 k69 k70 k71 k72 k73 k74 k75 k76 k77 k78 lk67 lk71 lk75 lk77
  go_wp2_with fail
  refine (HR.out _).mono ?_
  rintro e W9 ⟨rfl, hb9⟩
  have k91 : W9.cell? ⟨w.heap.size, 0, none⟩ = some (.int .i64 a) := kept1 k79 hb9
  have k92 : W9.cell? ⟨w.heap.size, 1, none⟩ = some (.int .i64 b) := kept1 k80 hb9
  have k93 : W9.cell? ⟨w.heap.size, 2, none⟩ = some (.int .i64 c) := kept1 k81 hb9
  have k94 : W9.cell? ⟨w.heap.size, 3, none⟩ = some (.int .i64 d) := kept1 k82 hb9
  have k95 : W9.cell? ⟨w.heap.size + 1, 0, none⟩ = some (.int .i64 e) := kept1 k83 hb9
  have k96 : W9.cell? ⟨w.heap.size + 1, 1, none⟩ = some (.int .i64 f) := kept1 k84 hb9
  have k97 : W9.cell? ⟨w.heap.size + 1, 2, none⟩ = some (.int .i64 g) := kept1 k85 hb9
  have k98 : W9.cell? ⟨w.heap.size + 1, 3, none⟩ = some (.int .i64 h) := kept1 k86 hb9
  have k99 : W9.cell? ⟨w.heap.size + 1 + 1, 0, none⟩ = some (.int .i64 i) := kept1 k87 hb9
  have k100 : W9.cell? ⟨w.heap.size + 1 + 1, 1, none⟩ = some (.int .i64 j) := kept1 k88 hb9
  have k101 : W9.cell? ⟨W3.heap.size, 0, none⟩ = some (.int .i64 p) := kept1 k89 hb9
  have k102 : W9.cell? ⟨W3.heap.size, 1, none⟩ = some (.int .i64 q) := kept1 k90 hb9
  have lk91 : w.heap.size < W9.heap.size := block_lt_of_cell k91
  have lk95 : w.heap.size + 1 < W9.heap.size := block_lt_of_cell k95
  have lk99 : w.heap.size + 1 + 1 < W9.heap.size := block_lt_of_cell k99
  have lk101 : W3.heap.size < W9.heap.size := block_lt_of_cell k101
  have hv9 : Below w.heap.size w W9 := bstep0 hv8 hb9
  clear hb9 hv8 k79 k80 k81 k82 k83 k84 k85 k86 k87 k88 k89 k90 lk79 lk83 lk87 lk89
  go_wp2_with fail
  refine (H5.out _).mono ?_
  rintro e W10 ⟨rfl, hb10⟩
  have k103 : W10.cell? ⟨w.heap.size, 0, none⟩ = some (.int .i64 a) := kept_a1 k91 hb10
  have k104 : W10.cell? ⟨w.heap.size, 1, none⟩ = some (.int .i64 b) := kept_a1 k92 hb10
  have k105 : W10.cell? ⟨w.heap.size, 2, none⟩ = some (.int .i64 c) := kept_a1 k93 hb10
  have k106 : W10.cell? ⟨w.heap.size, 3, none⟩ = some (.int .i64 d) := kept_a1 k94 hb10
  have k107 : W10.cell? ⟨w.heap.size + 1, 0, none⟩ = some (.int .i64 e) := kept_a1 k95 hb10
  have k108 : W10.cell? ⟨w.heap.size + 1, 1, none⟩ = some (.int .i64 f) := kept_a1 k96 hb10
  have k109 : W10.cell? ⟨w.heap.size + 1, 2, none⟩ = some (.int .i64 g) := kept_a1 k97 hb10
  have k110 : W10.cell? ⟨w.heap.size + 1, 3, none⟩ = some (.int .i64 h) := kept_a1 k98 hb10
  have k111 : W10.cell? ⟨w.heap.size + 1 + 1, 0, none⟩ = some (.int .i64 i) := kept_a1 k99 hb10
  have k112 : W10.cell? ⟨w.heap.size + 1 + 1, 1, none⟩ = some (.int .i64 j) := kept_a1 k100 hb10
  have k113 : W10.cell? ⟨W3.heap.size, 0, none⟩ = some (.int .i64 p) := kept_a1 k101 hb10
  have k114 : W10.cell? ⟨W3.heap.size, 1, none⟩ = some (.int .i64 q) := kept_a1 k102 hb10
  have k115 : W10.cell? ⟨W9.heap.size, 0, none⟩ = some (.int .i64 u) := kept1 (by simp [go_sem]) hb10
  have k116 : W10.cell? ⟨W9.heap.size, 1, none⟩ = some (.int .i64 v) := kept1 (by simp [go_sem]) hb10
  have lk103 : w.heap.size < W10.heap.size := block_lt_of_cell k103
  have lk107 : w.heap.size + 1 < W10.heap.size := block_lt_of_cell k107
  have lk111 : w.heap.size + 1 + 1 < W10.heap.size := block_lt_of_cell k111
  have lk113 : W3.heap.size < W10.heap.size := block_lt_of_cell k113
  have lk115 : W9.heap.size < W10.heap.size := block_lt_of_cell k115
  have hv10 : Below w.heap.size w W10 := bstep1 hv9 hb10
  clear hb10 hv9 k91 k92 k93 k94 k95 k96 k97 k98 k99 k100 k101 k102 lk91 lk95 lk99 lk101
  go_wp2_with fail
  refine (sanity_tab hT _ hv10).mono ?_
  rintro e W11 ⟨rfl, hb11⟩
  have k117 : W11.cell? ⟨w.heap.size, 0, none⟩ = some (.int .i64 a) := kept1 k103 hb11
  have k118 : W11.cell? ⟨w.heap.size, 1, none⟩ = some (.int .i64 b) := kept1 k104 hb11
  have k119 : W11.cell? ⟨w.heap.size, 2, none⟩ = some (.int .i64 c) := kept1 k105 hb11
  have k120 : W11.cell? ⟨w.heap.size, 3, none⟩ = some (.int .i64 d) := kept1 k106 hb11
  have k121 : W11.cell? ⟨w.heap.size + 1, 0, none⟩ = some (.int .i64 e) := kept1 k107 hb11
  have k122 : W11.cell? ⟨w.heap.size + 1, 1, none⟩ = some (.int .i64 f) := kept1 k108 hb11
  have k123 : W11.cell? ⟨w.heap.size + 1, 2, none⟩ = some (.int .i64 g) := kept1 k109 hb11
  have k124 : W11.cell? ⟨w.heap.size + 1, 3, none⟩ = some (.int .i64 h) := kept1 k110 hb11
  have k125 : W11.cell? ⟨w.heap.size + 1 + 1, 0, none⟩ = some (.int .i64 i) := kept1 k111 hb11
  have k126 : W11.cell? ⟨w.heap.size + 1 + 1, 1, none⟩ = some (.int .i64 j) := kept1 k112 hb11
  have k127 : W11.cell? ⟨W3.heap.size, 0, none⟩ = some (.int .i64 p) := kept1 k113 hb11
  have k128 : W11.cell? ⟨W3.heap.size, 1, none⟩ = some (.int .i64 q) := kept1 k114 hb11
  have k129 : W11.cell? ⟨W9.heap.size, 0, none⟩ = some (.int .i64 u) := kept1 k115 hb11
  have k130 : W11.cell? ⟨W9.heap.size, 1, none⟩ = some (.int .i64 v) := kept1 k116 hb11
  have lk117 : w.heap.size < W11.heap.size := block_lt_of_cell k117
  have lk121 : w.heap.size + 1 < W11.heap.size := block_lt_of_cell k121
  have lk125 : w.heap.size + 1 + 1 < W11.heap.size := block_lt_of_cell k125
  have lk127 : W3.heap.size < W11.heap.size := block_lt_of_cell k127
  have lk129 : W9.heap.size < W11.heap.size := block_lt_of_cell k129
  have hv11 : Below w.heap.size w W11 := bstep0 hv10 hb11
  clear hb11 hv10 k103 k104 k105 k106 k107 k108 k109 k110 k111 k112 k113 k114 k115 k116 lk103 lk107 lk111 lk113 lk115
  go_wp2
  go_ret
  exact ⟨by first | rfl | simp, (by repeat (first | with_reducible exact Below.refl _ _ | with_reducible assumption | refine below_drewN ?_ _ | refine Below.drew ?_ | refine Below.alloc ?_ (by first | (simp; done) | (simp; omega) | omega) _ | refine Below.setCell ?_ (by first | (simp; done) | (simp; omega) | omega) _ | refine Below.trans ?_ (Below.mono (by assumption) (by first | (simp; done) | (simp; omega) | omega))))⟩

set_option maxRecDepth 100000 in
set_option maxHeartbeats 2000000 in
theorem least_T3T (a b c d e f g h i j : Int) (p q : Int) (hx : Hid (vrP a b c d)) (ha : Hid (Rt.vldP i j)) (HS : Hid (∀ W : World, Calls Tryd.prog 49 #[.agg #[.int .i64 a, .int .i64 b, .int .i64 c, .int .i64 d]] W fun e w' => e = .returned (.tuple #[.agg #[.int .i64 p, .int .i64 q], .int .i64 0]) ∧ Below W.heap.size W w')) (H1 : Hid (∀ W : World, Calls Tryd.prog 55 #[.agg #[.int .i64 a, .int .i64 b, .int .i64 c, .int .i64 d], .agg #[.int .i64 p, .int .i64 q]] W fun e w' => e = .returned (.bool true) ∧ Below W.heap.size W w')) (H2 : Hid (∀ W : World, Calls Tryd.prog 55 #[.agg #[.int .i64 a, .int .i64 b, .int .i64 c, .int .i64 d], .agg #[.int .i64 i, .int .i64 j]] W fun e w' => e = .returned (.bool true) ∧ Below W.heap.size W w')) (m1 : q ≤ j) (hy : Hid (vrP e f g h)) (H3 : Hid (∀ W : World, Calls Tryd.prog 55 #[.agg #[.int .i64 a, .int .i64 b, .int .i64 c, .int .i64 d], .agg #[.int .i64 e, .int .i64 f]] W fun e w' => e = .returned (.bool true) ∧ Below W.heap.size W w')) (H4 : Hid (∀ W : World, Calls Tryd.prog 55 #[.agg #[.int .i64 a, .int .i64 b, .int .i64 c, .int .i64 d], .agg #[.int .i64 g, .int .i64 h]] W fun e w' => e = .returned (.bool true) ∧ Below W.heap.size W w')) (HR : Hid (∀ W : World, Calls Tryd.prog 49 #[.agg #[.int .i64 e, .int .i64 f, .int .i64 g, .int .i64 h]] W fun e w' => e = .returned (.tuple #[.agg #[.int .i64 p, .int .i64 q], .int .i64 0]) ∧ Below W.heap.size W w')) (H5 : Hid (∀ W : World, Calls Tryd.prog 55 #[.agg #[.int .i64 e, .int .i64 f, .int .i64 g, .int .i64 h], .agg #[.int .i64 p, .int .i64 q]] W fun e w' => e = .returned (.bool true) ∧ Below W.heap.size W w')) (w : World) (hT : Hid (Tab w.heap.size w)) :
    Calls Tryd.prog 14 #[.agg #[.int .i64 a, .int .i64 b, .int .i64 c, .int .i64 d], .agg #[.int .i64 e, .int .i64 f, .int .i64 g, .int .i64 h], .agg #[.int .i64 i, .int .i64 j]] w fun e w' => e = .returned (.bool true) ∧ Below w.heap.size w w' := by
  go_enter Tryd.func14, Tryd.ntmps14
  go_wp2_with fail
  refine (rvrange_yes a b c d _ hx.out).mono ?_
  rintro e W1 ⟨rfl, hb1⟩
  have k1 : W1.cell? ⟨w.heap.size, 0, none⟩ = some (.int .i64 a) := kept1 (by simp [go_sem]) hb1
  have k2 : W1.cell? ⟨w.heap.size, 1, none⟩ = some (.int .i64 b) := kept1 (by simp [go_sem]) hb1
  have k3 : W1.cell? ⟨w.heap.size, 2, none⟩ = some (.int .i64 c) := kept1 (by simp [go_sem]) hb1
  have k4 : W1.cell? ⟨w.heap.size, 3, none⟩ = some (.int .i64 d) := kept1 (by simp [go_sem]) hb1
  have k5 : W1.cell? ⟨w.heap.size + 1, 0, none⟩ = some (.int .i64 e) := kept1 (by simp [go_sem]) hb1
  have k6 : W1.cell? ⟨w.heap.size + 1, 1, none⟩ = some (.int .i64 f) := kept1 (by simp [go_sem]) hb1
  have k7 : W1.cell? ⟨w.heap.size + 1, 2, none⟩ = some (.int .i64 g) := kept1 (by simp [go_sem]) hb1
  have k8 : W1.cell? ⟨w.heap.size + 1, 3, none⟩ = some (.int .i64 h) := kept1 (by simp [go_sem]) hb1
  have k9 : W1.cell? ⟨w.heap.size + 1 + 1, 0, none⟩ = some (.int .i64 i) := kept1 (by simp [go_sem]) hb1
  have k10 : W1.cell? ⟨w.heap.size + 1 + 1, 1, none⟩ = some (.int .i64 j) := kept1 (by simp [go_sem]) hb1
  have lk1 : w.heap.size < W1.heap.size := block_lt_of_cell k1
  have lk5 : w.heap.size + 1 < W1.heap.size := block_lt_of_cell k5
  have lk9 : w.heap.size + 1 + 1 < W1.heap.size := block_lt_of_cell k9
  have hv1 : Below w.heap.size w W1 := bstep3 (Below.refl _ _) hb1
  clear hb1  
  go_wp2_with fail
  refine (rvalid_yes i j _ ha.out).mono ?_
  rintro e W2 ⟨rfl, hb2⟩
  have k11 : W2.cell? ⟨w.heap.size, 0, none⟩ = some (.int .i64 a) := kept1 k1 hb2
  have k12 : W2.cell? ⟨w.heap.size, 1, none⟩ = some (.int .i64 b) := kept1 k2 hb2
  have k13 : W2.cell? ⟨w.heap.size, 2, none⟩ = some (.int .i64 c) := kept1 k3 hb2
  have k14 : W2.cell? ⟨w.heap.size, 3, none⟩ = some (.int .i64 d) := kept1 k4 hb2
  have k15 : W2.cell? ⟨w.heap.size + 1, 0, none⟩ = some (.int .i64 e) := kept1 k5 hb2
  have k16 : W2.cell? ⟨w.heap.size + 1, 1, none⟩ = some (.int .i64 f) := kept1 k6 hb2
  have k17 : W2.cell? ⟨w.heap.size + 1, 2, none⟩ = some (.int .i64 g) := kept1 k7 hb2
  have k18 : W2.cell? ⟨w.heap.size + 1, 3, none⟩ = some (.int .i64 h) := kept1 k8 hb2
  have k19 : W2.cell? ⟨w.heap.size + 1 + 1, 0, none⟩ = some (.int .i64 i) := kept1 k9 hb2
  have k20 : W2.cell? ⟨w.heap.size + 1 + 1, 1, none⟩ = some (.int .i64 j) := kept1 k10 hb2
  have lk11 : w.heap.size < W2.heap.size := block_lt_of_cell k11
  have lk15 : w.heap.size + 1 < W2.heap.size := block_lt_of_cell k15
  have lk19 : w.heap.size + 1 + 1 < W2.heap.size := block_lt_of_cell k19
  have hv2 : Below w.heap.size w W2 := bstep0 hv1 hb2
  clear hb2 hv1 k1 k2 k3 k4 k5 k6 k7 k8 k9 k10 lk1 lk5 lk9
  go_wp2_with fail
  refine (HS.out _).mono ?_
  rintro e W3 ⟨rfl, hb3⟩
  have k21 : W3.cell? ⟨w.heap.size, 0, none⟩ = some (.int .i64 a) := kept1 k11 hb3
  have k22 : W3.cell? ⟨w.heap.size, 1, none⟩ = some (.int .i64 b) := kept1 k12 hb3
  have k23 : W3.cell? ⟨w.heap.size, 2, none⟩ = some (.int .i64 c) := kept1 k13 hb3
  have k24 : W3.cell? ⟨w.heap.size, 3, none⟩ = some (.int .i64 d) := kept1 k14 hb3
  have k25 : W3.cell? ⟨w.heap.size + 1, 0, none⟩ = some (.int .i64 e) := kept1 k15 hb3
  have k26 : W3.cell? ⟨w.heap.size + 1, 1, none⟩ = some (.int .i64 f) := kept1 k16 hb3
  have k27 : W3.cell? ⟨w.heap.size + 1, 2, none⟩ = some (.int .i64 g) := kept1 k17 hb3
  have k28 : W3.cell? ⟨w.heap.size + 1, 3, none⟩ = some (.int .i64 h) := kept1 k18 hb3
  have k29 : W3.cell? ⟨w.heap.size + 1 + 1, 0, none⟩ = some (.int .i64 i) := kept1 k19 hb3
  have k30 : W3.cell? ⟨w.heap.size + 1 + 1, 1, none⟩ = some (.int .i64 j) := kept1 k20 hb3
  have lk21 : w.heap.size < W3.heap.size := block_lt_of_cell k21
  have lk25 : w.heap.size + 1 < W3.heap.size := block_lt_of_cell k25
  have lk29 : w.heap.size + 1 + 1 < W3.heap.size := block_lt_of_cell k29
  have hv3 : Below w.heap.size w W3 := bstep0 hv2 hb3
  clear hb3 hv2 k11 k12 k13 k14 k15 k16 k17 k18 k19 k20 lk11 lk15 lk19
  go_wp2_with fail
  refine (H1.out _).mono ?_
  rintro e W4 ⟨rfl, hb4⟩
  have k31 : W4.cell? ⟨w.heap.size, 0, none⟩ = some (.int .i64 a) := kept_a1 k21 hb4
  have k32 : W4.cell? ⟨w.heap.size, 1, none⟩ = some (.int .i64 b) := kept_a1 k22 hb4
  have k33 : W4.cell? ⟨w.heap.size, 2, none⟩ = some (.int .i64 c) := kept_a1 k23 hb4
  have k34 : W4.cell? ⟨w.heap.size, 3, none⟩ = some (.int .i64 d) := kept_a1 k24 hb4
  have k35 : W4.cell? ⟨w.heap.size + 1, 0, none⟩ = some (.int .i64 e) := kept_a1 k25 hb4
  have k36 : W4.cell? ⟨w.heap.size + 1, 1, none⟩ = some (.int .i64 f) := kept_a1 k26 hb4
  have k37 : W4.cell? ⟨w.heap.size + 1, 2, none⟩ = some (.int .i64 g) := kept_a1 k27 hb4
  have k38 : W4.cell? ⟨w.heap.size + 1, 3, none⟩ = some (.int .i64 h) := kept_a1 k28 hb4
  have k39 : W4.cell? ⟨w.heap.size + 1 + 1, 0, none⟩ = some (.int .i64 i) := kept_a1 k29 hb4
  have k40 : W4.cell? ⟨w.heap.size + 1 + 1, 1, none⟩ = some (.int .i64 j) := kept_a1 k30 hb4
  have k41 : W4.cell? ⟨W3.heap.size, 0, none⟩ = some (.int .i64 p) := kept1 (by simp [go_sem]) hb4
  have k42 : W4.cell? ⟨W3.heap.size, 1, none⟩ = some (.int .i64 q) := kept1 (by simp [go_sem]) hb4
  have lk31 : w.heap.size < W4.heap.size := block_lt_of_cell k31
  have lk35 : w.heap.size + 1 < W4.heap.size := block_lt_of_cell k35
  have lk39 : w.heap.size + 1 + 1 < W4.heap.size := block_lt_of_cell k39
  have lk41 : W3.heap.size < W4.heap.size := block_lt_of_cell k41
  have hv4 : Below w.heap.size w W4 := bstep1 hv3 hb4
  clear hb4 hv3 k21 k22 k23 k24 k25 k26 k27 k28 k29 k30 lk21 lk25 lk29
  go_wp2_with fail
  refine (H2.out _).mono ?_
  rintro e W5 ⟨rfl, hb5⟩
  have k43 : W5.cell? ⟨w.heap.size, 0, none⟩ = some (.int .i64 a) := kept1 k31 hb5
  have k44 : W5.cell? ⟨w.heap.size, 1, none⟩ = some (.int .i64 b) := kept1 k32 hb5
  have k45 : W5.cell? ⟨w.heap.size, 2, none⟩ = some (.int .i64 c) := kept1 k33 hb5
  have k46 : W5.cell? ⟨w.heap.size, 3, none⟩ = some (.int .i64 d) := kept1 k34 hb5
  have k47 : W5.cell? ⟨w.heap.size + 1, 0, none⟩ = some (.int .i64 e) := kept1 k35 hb5
  have k48 : W5.cell? ⟨w.heap.size + 1, 1, none⟩ = some (.int .i64 f) := kept1 k36 hb5
  have k49 : W5.cell? ⟨w.heap.size + 1, 2, none⟩ = some (.int .i64 g) := kept1 k37 hb5
  have k50 : W5.cell? ⟨w.heap.size + 1, 3, none⟩ = some (.int .i64 h) := kept1 k38 hb5
  have k51 : W5.cell? ⟨w.heap.size + 1 + 1, 0, none⟩ = some (.int .i64 i) := kept1 k39 hb5
  have k52 : W5.cell? ⟨w.heap.size + 1 + 1, 1, none⟩ = some (.int .i64 j) := kept1 k40 hb5
  have k53 : W5.cell? ⟨W3.heap.size, 0, none⟩ = some (.int .i64 p) := kept1 k41 hb5
  have k54 : W5.cell? ⟨W3.heap.size, 1, none⟩ = some (.int .i64 q) := kept1 k42 hb5
  have lk43 : w.heap.size < W5.heap.size := block_lt_of_cell k43
  have lk47 : w.heap.size + 1 < W5.heap.size := block_lt_of_cell k47
  have lk51 : w.heap.size + 1 + 1 < W5.heap.size := block_lt_of_cell k51
  have lk53 : W3.heap.size < W5.heap.size := block_lt_of_cell k53
  have hv5 : Below w.heap.size w W5 := bstep0 hv4 hb5
  clear hb5 hv4 k31 k32 k33 k34 k35 k36 k37 k38 k39 k40 k41 k42 lk31 lk35 lk39 lk41
  go_wp2_with fail
  refine (rvrange_yes e f g h _ hy.out).mono ?_
  rintro e W6 ⟨rfl, hb6⟩
  have k55 : W6.cell? ⟨w.heap.size, 0, none⟩ = some (.int .i64 a) := kept1 k43 hb6
  have k56 : W6.cell? ⟨w.heap.size, 1, none⟩ = some (.int .i64 b) := kept1 k44 hb6
  have k57 : W6.cell? ⟨w.heap.size, 2, none⟩ = some (.int .i64 c) := kept1 k45 hb6
  have k58 : W6.cell? ⟨w.heap.size, 3, none⟩ = some (.int .i64 d) := kept1 k46 hb6
  have k59 : W6.cell? ⟨w.heap.size + 1, 0, none⟩ = some (.int .i64 e) := kept1 k47 hb6
  have k60 : W6.cell? ⟨w.heap.size + 1, 1, none⟩ = some (.int .i64 f) := kept1 k48 hb6
  have k61 : W6.cell? ⟨w.heap.size + 1, 2, none⟩ = some (.int .i64 g) := kept1 k49 hb6
  have k62 : W6.cell? ⟨w.heap.size + 1, 3, none⟩ = some (.int .i64 h) := kept1 k50 hb6
  have k63 : W6.cell? ⟨w.heap.size + 1 + 1, 0, none⟩ = some (.int .i64 i) := kept1 k51 hb6
  have k64 : W6.cell? ⟨w.heap.size + 1 + 1, 1, none⟩ = some (.int .i64 j) := kept1 k52 hb6
  have k65 : W6.cell? ⟨W3.heap.size, 0, none⟩ = some (.int .i64 p) := kept1 k53 hb6
  have k66 : W6.cell? ⟨W3.heap.size, 1, none⟩ = some (.int .i64 q) := kept1 k54 hb6
  have lk55 : w.heap.size < W6.heap.size := block_lt_of_cell k55
  have lk59 : w.heap.size + 1 < W6.heap.size := block_lt_of_cell k59
  have lk63 : w.heap.size + 1 + 1 < W6.heap.size := block_lt_of_cell k63
  have lk65 : W3.heap.size < W6.heap.size := block_lt_of_cell k65
  have hv6 : Below w.heap.size w W6 := bstep0 hv5 hb6
  clear hb6 hv5 k43 k44 k45 k46 k47 k48 k49 k50 k51 k52 k53 k54 lk43 lk47 lk51 lk53
  go_wp2_with fail
  refine (H3.out _).mono ?_
  rintro e W7 ⟨rfl, hb7⟩
  have k67 : W7.cell? ⟨w.heap.size, 0, none⟩ = some (.int .i64 a) := kept1 k55 hb7
  have k68 : W7.cell? ⟨w.heap.size, 1, none⟩ = some (.int .i64 b) := kept1 k56 hb7
  have k69 : W7.cell? ⟨w.heap.size, 2, none⟩ = some (.int .i64 c) := kept1 k57 hb7
  have k70 : W7.cell? ⟨w.heap.size, 3, none⟩ = some (.int .i64 d) := kept1 k58 hb7
  have k71 : W7.cell? ⟨w.heap.size + 1, 0, none⟩ = some (.int .i64 e) := kept1 k59 hb7
  have k72 : W7.cell? ⟨w.heap.size + 1, 1, none⟩ = some (.int .i64 f) := kept1 k60 hb7
  have k73 : W7.cell? ⟨w.heap.size + 1, 2, none⟩ = some (.int .i64 g) := kept1 k61 hb7
  have k74 : W7.cell? ⟨w.heap.size + 1, 3, none⟩ = some (.int .i64 h) := kept1 k62 hb7
  have k75 : W7.cell? ⟨w.heap.size + 1 + 1, 0, none⟩ = some (.int .i64 i) := kept1 k63 hb7
  have k76 : W7.cell? ⟨w.heap.size + 1 + 1, 1, none⟩ = some (.int .i64 j) := kept1 k64 hb7
  have k77 : W7.cell? ⟨W3.heap.size, 0, none⟩ = some (.int .i64 p) := kept1 k65 hb7
  have k78 : W7.cell? ⟨W3.heap.size, 1, none⟩ = some (.int .i64 q) := kept1 k66 hb7
  have lk67 : w.heap.size < W7.heap.size := block_lt_of_cell k67
  have lk71 : w.heap.size + 1 < W7.heap.size := block_lt_of_cell k71
  have lk75 : w.heap.size + 1 + 1 < W7.heap.size := block_lt_of_cell k75
  have lk77 : W3.heap.size < W7.heap.size := block_lt_of_cell k77
  have hv7 : Below w.heap.size w W7 := bstep0 hv6 hb7
  clear hb7 hv6 k55 k56 k57 k58 k59 k60 k61 k62 k63 k64 k65 k66 lk55 lk59 lk63 lk65
  go_wp2_with fail
  refine (H4.out _).mono ?_
  rintro e W8 ⟨rfl, hb8⟩
  have k79 : W8.cell? ⟨w.heap.size, 0, none⟩ = some (.int .i64 a) := kept1 k67 hb8
  have k80 : W8.cell? ⟨w.heap.size, 1, none⟩ = some (.int .i64 b) := kept1 k68 hb8
  have k81 : W8.cell? ⟨w.heap.size, 2, none⟩ = some (.int .i64 c) := kept1 k69 hb8
  have k82 : W8.cell? ⟨w.heap.size, 3, none⟩ = some (.int .i64 d) := kept1 k70 hb8
  have k83 : W8.cell? ⟨w.heap.size + 1, 0, none⟩ = some (.int .i64 e) := kept1 k71 hb8
  have k84 : W8.cell? ⟨w.heap.size + 1, 1, none⟩ = some (.int .i64 f) := kept1 k72 hb8
  have k85 : W8.cell? ⟨w.heap.size + 1, 2, none⟩ = some (.int .i64 g) := kept1 k73 hb8
  have k86 : W8.cell? ⟨w.heap.size + 1, 3, none⟩ = some (.int .i64 h) := kept1 k74 hb8
  have k87 : W8.cell? ⟨w.heap.size + 1 + 1, 0, none⟩ = some (.int .i64 i) := kept1 k75 hb8
  have k88 : W8.cell? ⟨w.heap.size + 1 + 1, 1, none⟩ = some (.int .i64 j) := kept1 k76 hb8
  have k89 : W8.cell? ⟨W3.heap.size, 0, none⟩ = some (.int .i64 p) := kept1 k77 hb8
  have k90 : W8.cell? ⟨W3.heap.size, 1, none⟩ = some (.int .i64 q) := kept1 k78 hb8
  have lk79 : w.heap.size < W8.heap.size := block_lt_of_cell k79
  have lk83 : w.heap.size + 1 < W8.heap.size := block_lt_of_cell k83
  have lk87 : w.heap.size + 1 + 1 < W8.heap.size := block_lt_of_cell k87
  have lk89 : W3.heap.size < W8.heap.size := block_lt_of_cell k89
  have hv8 : Below w.heap.size w W8 := bstep0 hv7 hb8
  clear hb8 hv7 k67 k68 k69 k70 k71 k72 k73 k74 k75 k76 k77 k78 lk67 lk71 lk75 lk77
  go_wp2_with fail
  refine (HR.out _).mono ?_
  rintro e W9 ⟨rfl, hb9⟩
  have k91 : W9.cell? ⟨w.heap.size, 0, none⟩ = some (.int .i64 a) := kept1 k79 hb9
  have k92 : W9.cell? ⟨w.heap.size, 1, none⟩ = some (.int .i64 b) := kept1 k80 hb9
  have k93 : W9.cell? ⟨w.heap.size, 2, none⟩ = some (.int .i64 c) := kept1 k81 hb9
  have k94 : W9.cell? ⟨w.heap.size, 3, none⟩ = some (.int .i64 d) := kept1 k82 hb9
  have k95 : W9.cell? ⟨w.heap.size + 1, 0, none⟩ = some (.int .i64 e) := kept1 k83 hb9
  have k96 : W9.cell? ⟨w.heap.size + 1, 1, none⟩ = some (.int .i64 f) := kept1 k84 hb9
  have k97 : W9.cell? ⟨w.heap.size + 1, 2, none⟩ = some (.int .i64 g) := kept1 k85 hb9
  have k98 : W9.cell? ⟨w.heap.size + 1, 3, none⟩ = some (.int .i64 h) := kept1 k86 hb9
  have k99 : W9.cell? ⟨w.heap.size + 1 + 1, 0, none⟩ = some (.int .i64 i) := kept1 k87 hb9
  have k100 : W9.cell? ⟨w.heap.size + 1 + 1, 1, none⟩ = some (.int .i64 j) := kept1 k88 hb9
  have k101 : W9.cell? ⟨W3.heap.size, 0, none⟩ = some (.int .i64 p) := kept1 k89 hb9
  have k102 : W9.cell? ⟨W3.heap.size, 1, none⟩ = some (.int .i64 q) := kept1 k90 hb9
  have lk91 : w.heap.size < W9.heap.size := block_lt_of_cell k91
  have lk95 : w.heap.size + 1 < W9.heap.size := block_lt_of_cell k95
  have lk99 : w.heap.size + 1 + 1 < W9.heap.size := block_lt_of_cell k99
  have lk101 : W3.heap.size < W9.heap.size := block_lt_of_cell k101
  have hv9 : Below w.heap.size w W9 := bstep0 hv8 hb9
  clear hb9 hv8 k79 k80 k81 k82 k83 k84 k85 k86 k87 k88 k89 k90 lk79 lk83 lk87 lk89
  go_wp2_with fail
  refine (H5.out _).mono ?_
  rintro e W10 ⟨rfl, hb10⟩
  have k103 : W10.cell? ⟨w.heap.size, 0, none⟩ = some (.int .i64 a) := kept_a1 k91 hb10
  have k104 : W10.cell? ⟨w.heap.size, 1, none⟩ = some (.int .i64 b) := kept_a1 k92 hb10
  have k105 : W10.cell? ⟨w.heap.size, 2, none⟩ = some (.int .i64 c) := kept_a1 k93 hb10
  have k106 : W10.cell? ⟨w.heap.size, 3, none⟩ = some (.int .i64 d) := kept_a1 k94 hb10
  have k107 : W10.cell? ⟨w.heap.size + 1, 0, none⟩ = some (.int .i64 e) := kept_a1 k95 hb10
  have k108 : W10.cell? ⟨w.heap.size + 1, 1, none⟩ = some (.int .i64 f) := kept_a1 k96 hb10
  have k109 : W10.cell? ⟨w.heap.size + 1, 2, none⟩ = some (.int .i64 g) := kept_a1 k97 hb10
  have k110 : W10.cell? ⟨w.heap.size + 1, 3, none⟩ = some (.int .i64 h) := kept_a1 k98 hb10
  have k111 : W10.cell? ⟨w.heap.size + 1 + 1, 0, none⟩ = some (.int .i64 i) := kept_a1 k99 hb10
  have k112 : W10.cell? ⟨w.heap.size + 1 + 1, 1, none⟩ = some (.int .i64 j) := kept_a1 k100 hb10
  have k113 : W10.cell? ⟨W3.heap.size, 0, none⟩ = some (.int .i64 p) := kept_a1 k101 hb10
  have k114 : W10.cell? ⟨W3.heap.size, 1, none⟩ = some (.int .i64 q) := kept_a1 k102 hb10
  have k115 : W10.cell? ⟨W9.heap.size, 0, none⟩ = some (.int .i64 p) := kept1 (by simp [go_sem]) hb10
  have k116 : W10.cell? ⟨W9.heap.size, 1, none⟩ = some (.int .i64 q) := kept1 (by simp [go_sem]) hb10
  have lk103 : w.heap.size < W10.heap.size := block_lt_of_cell k103
  have lk107 : w.heap.size + 1 < W10.heap.size := block_lt_of_cell k107
  have lk111 : w.heap.size + 1 + 1 < W10.heap.size := block_lt_of_cell k111
  have lk113 : W3.heap.size < W10.heap.size := block_lt_of_cell k113
  have lk115 : W9.heap.size < W10.heap.size := block_lt_of_cell k115
  have hv10 : Below w.heap.size w W10 := bstep1 hv9 hb10
  clear hb10 hv9 k91 k92 k93 k94 k95 k96 k97 k98 k99 k100 k101 k102 lk91 lk95 lk99 lk101
  go_wp2_with fail
  refine (sanity_tab hT _ hv10).mono ?_
  rintro e W11 ⟨rfl, hb11⟩
  have k117 : W11.cell? ⟨w.heap.size, 0, none⟩ = some (.int .i64 a) := kept1 k103 hb11
  have k118 : W11.cell? ⟨w.heap.size, 1, none⟩ = some (.int .i64 b) := kept1 k104 hb11
  have k119 : W11.cell? ⟨w.heap.size, 2, none⟩ = some (.int .i64 c) := kept1 k105 hb11
  have k120 : W11.cell? ⟨w.heap.size, 3, none⟩ = some (.int .i64 d) := kept1 k106 hb11
  have k121 : W11.cell? ⟨w.heap.size + 1, 0, none⟩ = some (.int .i64 e) := kept1 k107 hb11
  have k122 : W11.cell? ⟨w.heap.size + 1, 1, none⟩ = some (.int .i64 f) := kept1 k108 hb11
  have k123 : W11.cell? ⟨w.heap.size + 1, 2, none⟩ = some (.int .i64 g) := kept1 k109 hb11
  have k124 : W11.cell? ⟨w.heap.size + 1, 3, none⟩ = some (.int .i64 h) := kept1 k110 hb11
  have k125 : W11.cell? ⟨w.heap.size + 1 + 1, 0, none⟩ = some (.int .i64 i) := kept1 k111 hb11
  have k126 : W11.cell? ⟨w.heap.size + 1 + 1, 1, none⟩ = some (.int .i64 j) := kept1 k112 hb11
  have k127 : W11.cell? ⟨W3.heap.size, 0, none⟩ = some (.int .i64 p) := kept1 k113 hb11
  have k128 : W11.cell? ⟨W3.heap.size, 1, none⟩ = some (.int .i64 q) := kept1 k114 hb11
  have k129 : W11.cell? ⟨W9.heap.size, 0, none⟩ = some (.int .i64 p) := kept1 k115 hb11
  have k130 : W11.cell? ⟨W9.heap.size, 1, none⟩ = some (.int .i64 q) := kept1 k116 hb11
  have lk117 : w.heap.size < W11.heap.size := block_lt_of_cell k117
  have lk121 : w.heap.size + 1 < W11.heap.size := block_lt_of_cell k121
  have lk125 : w.heap.size + 1 + 1 < W11.heap.size := block_lt_of_cell k125
  have lk127 : W3.heap.size < W11.heap.size := block_lt_of_cell k127
  have lk129 : W9.heap.size < W11.heap.size := block_lt_of_cell k129
  have hv11 : Below w.heap.size w W11 := bstep0 hv10 hb11
  clear hb11 hv10 k103 k104 k105 k106 k107 k108 k109 k110 k111 k112 k113 k114 k115 k116 lk103 lk107 lk111 lk113 lk115
  go_wp2
  go_ret
  exact ⟨by first | rfl | simp, (by repeat (first | with_reducible exact Below.refl _ _ | with_reducible assumption | refine below_drewN ?_ _ | refine Below.drew ?_ | refine Below.alloc ?_ (by first | (simp; done) | (simp; omega) | omega) _ | refine Below.setCell ?_ (by first | (simp; done) | (simp; omega) | omega) _ | refine Below.trans ?_ (Below.mono (by assumption) (by first | (simp; done) | (simp; omega) | omega))))⟩

set_option maxRecDepth 100000 in
set_option maxHeartbeats 2000000 in
theorem least_F0 (a b c d e f g h i j : Int) (p q : Int) (hx : Hid (vrP a b c d)) (ha : Hid (Rt.vldP i j)) (HS : Hid (∀ W : World, Calls Tryd.prog 49 #[.agg #[.int .i64 a, .int .i64 b, .int .i64 c, .int .i64 d]] W fun e w' => e = .returned (.tuple #[.agg #[.int .i64 p, .int .i64 q], .int .i64 0]) ∧ Below W.heap.size W w')) (H1 : Hid (∀ W : World, Calls Tryd.prog 55 #[.agg #[.int .i64 a, .int .i64 b, .int .i64 c, .int .i64 d], .agg #[.int .i64 p, .int .i64 q]] W fun e w' => e = .returned (.bool true) ∧ Below W.heap.size W w')) (H2 : Hid (∀ W : World, Calls Tryd.prog 55 #[.agg #[.int .i64 a, .int .i64 b, .int .i64 c, .int .i64 d], .agg #[.int .i64 i, .int .i64 j]] W fun e w' => e = .returned (.bool false) ∧ Below W.heap.size W w')) (hy : Hid (¬ vrP e f g h)) (w : World) (hT : Hid (Tab w.heap.size w)) :
    Calls Tryd.prog 14 #[.agg #[.int .i64 a, .int .i64 b, .int .i64 c, .int .i64 d], .agg #[.int .i64 e, .int .i64 f, .int .i64 g, .int .i64 h], .agg #[.int .i64 i, .int .i64 j]] w fun e w' => e = .returned (.bool true) ∧ Below w.heap.size w w' := by
  go_enter Tryd.func14, Tryd.ntmps14
  go_wp2_with fail
  refine (rvrange_yes a b c d _ hx.out).mono ?_
  rintro e W1 ⟨rfl, hb1⟩
  have k1 : W1.cell? ⟨w.heap.size, 0, none⟩ = some (.int .i64 a) := kept1 (by simp [go_sem]) hb1
  have k2 : W1.cell? ⟨w.heap.size, 1, none⟩ = some (.int .i64 b) := kept1 (by simp [go_sem]) hb1
  have k3 : W1.cell? ⟨w.heap.size, 2, none⟩ = some (.int .i64 c) := kept1 (by simp [go_sem]) hb1
  have k4 : W1.cell? ⟨w.heap.size, 3, none⟩ = some (.int .i64 d) := kept1 (by simp [go_sem]) hb1
  have k5 : W1.cell? ⟨w.heap.size + 1, 0, none⟩ = some (.int .i64 e) := kept1 (by simp [go_sem]) hb1
  have k6 : W1.cell? ⟨w.heap.size + 1, 1, none⟩ = some (.int .i64 f) := kept1 (by simp [go_sem]) hb1
  have k7 : W1.cell? ⟨w.heap.size + 1, 2, none⟩ = some (.int .i64 g) := kept1 (by simp [go_sem]) hb1
  have k8 : W1.cell? ⟨w.heap.size + 1, 3, none⟩ = some (.int .i64 h) := kept1 (by simp [go_sem]) hb1
  have k9 : W1.cell? ⟨w.heap.size + 1 + 1, 0, none⟩ = some (.int .i64 i) := kept1 (by simp [go_sem]) hb1
  have k10 : W1.cell? ⟨w.heap.size + 1 + 1, 1, none⟩ = some (.int .i64 j) := kept1 (by simp [go_sem]) hb1
  have lk1 : w.heap.size < W1.heap.size := block_lt_of_cell k1
  have lk5 : w.heap.size + 1 < W1.heap.size := block_lt_of_cell k5
  have lk9 : w.heap.size + 1 + 1 < W1.heap.size := block_lt_of_cell k9
  have hv1 : Below w.heap.size w W1 := bstep3 (Below.refl _ _) hb1
  clear hb1  
  go_wp2_with fail
  refine (rvalid_yes i j _ ha.out).mono ?_
  rintro e W2 ⟨rfl, hb2⟩
  have k11 : W2.cell? ⟨w.heap.size, 0, none⟩ = some (.int .i64 a) := kept1 k1 hb2
  have k12 : W2.cell? ⟨w.heap.size, 1, none⟩ = some (.int .i64 b) := kept1 k2 hb2
  have k13 : W2.cell? ⟨w.heap.size, 2, none⟩ = some (.int .i64 c) := kept1 k3 hb2
  have k14 : W2.cell? ⟨w.heap.size, 3, none⟩ = some (.int .i64 d) := kept1 k4 hb2
  have k15 : W2.cell? ⟨w.heap.size + 1, 0, none⟩ = some (.int .i64 e) := kept1 k5 hb2
  have k16 : W2.cell? ⟨w.heap.size + 1, 1, none⟩ = some (.int .i64 f) := kept1 k6 hb2
  have k17 : W2.cell? ⟨w.heap.size + 1, 2, none⟩ = some (.int .i64 g) := kept1 k7 hb2
  have k18 : W2.cell? ⟨w.heap.size + 1, 3, none⟩ = some (.int .i64 h) := kept1 k8 hb2
  have k19 : W2.cell? ⟨w.heap.size + 1 + 1, 0, none⟩ = some (.int .i64 i) := kept1 k9 hb2
  have k20 : W2.cell? ⟨w.heap.size + 1 + 1, 1, none⟩ = some (.int .i64 j) := kept1 k10 hb2
  have lk11 : w.heap.size < W2.heap.size := block_lt_of_cell k11
  have lk15 : w.heap.size + 1 < W2.heap.size := block_lt_of_cell k15
  have lk19 : w.heap.size + 1 + 1 < W2.heap.size := block_lt_of_cell k19
  have hv2 : Below w.heap.size w W2 := bstep0 hv1 hb2
  clear hb2 hv1 k1 k2 k3 k4 k5 k6 k7 k8 k9 k10 lk1 lk5 lk9
  go_wp2_with fail
  refine (HS.out _).mono ?_
  rintro e W3 ⟨rfl, hb3⟩
  have k21 : W3.cell? ⟨w.heap.size, 0, none⟩ = some (.int .i64 a) := kept1 k11 hb3
  have k22 : W3.cell? ⟨w.heap.size, 1, none⟩ = some (.int .i64 b) := kept1 k12 hb3
  have k23 : W3.cell? ⟨w.heap.size, 2, none⟩ = some (.int .i64 c) := kept1 k13 hb3
  have k24 : W3.cell? ⟨w.heap.size, 3, none⟩ = some (.int .i64 d) := kept1 k14 hb3
  have k25 : W3.cell? ⟨w.heap.size + 1, 0, none⟩ = some (.int .i64 e) := kept1 k15 hb3
  have k26 : W3.cell? ⟨w.heap.size + 1, 1, none⟩ = some (.int .i64 f) := kept1 k16 hb3
  have k27 : W3.cell? ⟨w.heap.size + 1, 2, none⟩ = some (.int .i64 g) := kept1 k17 hb3
  have k28 : W3.cell? ⟨w.heap.size + 1, 3, none⟩ = some (.int .i64 h) := kept1 k18 hb3
  have k29 : W3.cell? ⟨w.heap.size + 1 + 1, 0, none⟩ = some (.int .i64 i) := kept1 k19 hb3
  have k30 : W3.cell? ⟨w.heap.size + 1 + 1, 1, none⟩ = some (.int .i64 j) := kept1 k20 hb3
  have lk21 : w.heap.size < W3.heap.size := block_lt_of_cell k21
  have lk25 : w.heap.size + 1 < W3.heap.size := block_lt_of_cell k25
  have lk29 : w.heap.size + 1 + 1 < W3.heap.size := block_lt_of_cell k29
  have hv3 : Below w.heap.size w W3 := bstep0 hv2 hb3
  clear hb3 hv2 k11 k12 k13 k14 k15 k16 k17 k18 k19 k20 lk11 lk15 lk19
  go_wp2_with fail
  refine (H1.out _).mono ?_
  rintro e W4 ⟨rfl, hb4⟩
  have k31 : W4.cell? ⟨w.heap.size, 0, none⟩ = some (.int .i64 a) := kept_a1 k21 hb4
  have k32 : W4.cell? ⟨w.heap.size, 1, none⟩ = some (.int .i64 b) := kept_a1 k22 hb4
  have k33 : W4.cell? ⟨w.heap.size, 2, none⟩ = some (.int .i64 c) := kept_a1 k23 hb4
  have k34 : W4.cell? ⟨w.heap.size, 3, none⟩ = some (.int .i64 d) := kept_a1 k24 hb4
  have k35 : W4.cell? ⟨w.heap.size + 1, 0, none⟩ = some (.int .i64 e) := kept_a1 k25 hb4
  have k36 : W4.cell? ⟨w.heap.size + 1, 1, none⟩ = some (.int .i64 f) := kept_a1 k26 hb4
  have k37 : W4.cell? ⟨w.heap.size + 1, 2, none⟩ = some (.int .i64 g) := kept_a1 k27 hb4
  have k38 : W4.cell? ⟨w.heap.size + 1, 3, none⟩ = some (.int .i64 h) := kept_a1 k28 hb4
  have k39 : W4.cell? ⟨w.heap.size + 1 + 1, 0, none⟩ = some (.int .i64 i) := kept_a1 k29 hb4
  have k40 : W4.cell? ⟨w.heap.size + 1 + 1, 1, none⟩ = some (.int .i64 j) := kept_a1 k30 hb4
  have k41 : W4.cell? ⟨W3.heap.size, 0, none⟩ = some (.int .i64 p) := kept1 (by simp [go_sem]) hb4
  have k42 : W4.cell? ⟨W3.heap.size, 1, none⟩ = some (.int .i64 q) := kept1 (by simp [go_sem]) hb4
  have lk31 : w.heap.size < W4.heap.size := block_lt_of_cell k31
  have lk35 : w.heap.size + 1 < W4.heap.size := block_lt_of_cell k35
  have lk39 : w.heap.size + 1 + 1 < W4.heap.size := block_lt_of_cell k39
  have lk41 : W3.heap.size < W4.heap.size := block_lt_of_cell k41
  have hv4 : Below w.heap.size w W4 := bstep1 hv3 hb4
  clear hb4 hv3 k21 k22 k23 k24 k25 k26 k27 k28 k29 k30 lk21 lk25 lk29
  go_wp2_with fail
  refine (H2.out _).mono ?_
  rintro e W5 ⟨rfl, hb5⟩
  have k43 : W5.cell? ⟨w.heap.size, 0, none⟩ = some (.int .i64 a) := kept1 k31 hb5
  have k44 : W5.cell? ⟨w.heap.size, 1, none⟩ = some (.int .i64 b) := kept1 k32 hb5
  have k45 : W5.cell? ⟨w.heap.size, 2, none⟩ = some (.int .i64 c) := kept1 k33 hb5
  have k46 : W5.cell? ⟨w.heap.size, 3, none⟩ = some (.int .i64 d) := kept1 k34 hb5
  have k47 : W5.cell? ⟨w.heap.size + 1, 0, none⟩ = some (.int .i64 e) := kept1 k35 hb5
  have k48 : W5.cell? ⟨w.heap.size + 1, 1, none⟩ = some (.int .i64 f) := kept1 k36 hb5
  have k49 : W5.cell? ⟨w.heap.size + 1, 2, none⟩ = some (.int .i64 g) := kept1 k37 hb5
  have k50 : W5.cell? ⟨w.heap.size + 1, 3, none⟩ = some (.int .i64 h) := kept1 k38 hb5
  have k51 : W5.cell? ⟨w.heap.size + 1 + 1, 0, none⟩ = some (.int .i64 i) := kept1 k39 hb5
  have k52 : W5.cell? ⟨w.heap.size + 1 + 1, 1, none⟩ = some (.int .i64 j) := kept1 k40 hb5
  have k53 : W5.cell? ⟨W3.heap.size, 0, none⟩ = some (.int .i64 p) := kept1 k41 hb5
  have k54 : W5.cell? ⟨W3.heap.size, 1, none⟩ = some (.int .i64 q) := kept1 k42 hb5
  have lk43 : w.heap.size < W5.heap.size := block_lt_of_cell k43
  have lk47 : w.heap.size + 1 < W5.heap.size := block_lt_of_cell k47
  have lk51 : w.heap.size + 1 + 1 < W5.heap.size := block_lt_of_cell k51
  have lk53 : W3.heap.size < W5.heap.size := block_lt_of_cell k53
  have hv5 : Below w.heap.size w W5 := bstep0 hv4 hb5
  clear hb5 hv4 k31 k32 k33 k34 k35 k36 k37 k38 k39 k40 k41 k42 lk31 lk35 lk39 lk41
  go_wp2_with fail
  refine (rvrange_not e f g h _ hy.out).mono ?_
  rintro e W6 ⟨rfl, hb6⟩
  have k55 : W6.cell? ⟨w.heap.size, 0, none⟩ = some (.int .i64 a) := kept1 k43 hb6
  have k56 : W6.cell? ⟨w.heap.size, 1, none⟩ = some (.int .i64 b) := kept1 k44 hb6
  have k57 : W6.cell? ⟨w.heap.size, 2, none⟩ = some (.int .i64 c) := kept1 k45 hb6
  have k58 : W6.cell? ⟨w.heap.size, 3, none⟩ = some (.int .i64 d) := kept1 k46 hb6
  have k59 : W6.cell? ⟨w.heap.size + 1, 0, none⟩ = some (.int .i64 e) := kept1 k47 hb6
  have k60 : W6.cell? ⟨w.heap.size + 1, 1, none⟩ = some (.int .i64 f) := kept1 k48 hb6
  have k61 : W6.cell? ⟨w.heap.size + 1, 2, none⟩ = some (.int .i64 g) := kept1 k49 hb6
  have k62 : W6.cell? ⟨w.heap.size + 1, 3, none⟩ = some (.int .i64 h) := kept1 k50 hb6
  have k63 : W6.cell? ⟨w.heap.size + 1 + 1, 0, none⟩ = some (.int .i64 i) := kept1 k51 hb6
  have k64 : W6.cell? ⟨w.heap.size + 1 + 1, 1, none⟩ = some (.int .i64 j) := kept1 k52 hb6
  have k65 : W6.cell? ⟨W3.heap.size, 0, none⟩ = some (.int .i64 p) := kept1 k53 hb6
  have k66 : W6.cell? ⟨W3.heap.size, 1, none⟩ = some (.int .i64 q) := kept1 k54 hb6
  have lk55 : w.heap.size < W6.heap.size := block_lt_of_cell k55
  have lk59 : w.heap.size + 1 < W6.heap.size := block_lt_of_cell k59
  have lk63 : w.heap.size + 1 + 1 < W6.heap.size := block_lt_of_cell k63
  have lk65 : W3.heap.size < W6.heap.size := block_lt_of_cell k65
  have hv6 : Below w.heap.size w W6 := bstep0 hv5 hb6
  clear hb6 hv5 k43 k44 k45 k46 k47 k48 k49 k50 k51 k52 k53 k54 lk43 lk47 lk51 lk53
  go_wp2_with fail
  refine (sanity_tab hT _ hv6).mono ?_
  rintro e W7 ⟨rfl, hb7⟩
  have k67 : W7.cell? ⟨w.heap.size, 0, none⟩ = some (.int .i64 a) := kept1 k55 hb7
  have k68 : W7.cell? ⟨w.heap.size, 1, none⟩ = some (.int .i64 b) := kept1 k56 hb7
  have k69 : W7.cell? ⟨w.heap.size, 2, none⟩ = some (.int .i64 c) := kept1 k57 hb7
  have k70 : W7.cell? ⟨w.heap.size, 3, none⟩ = some (.int .i64 d) := kept1 k58 hb7
  have k71 : W7.cell? ⟨w.heap.size + 1, 0, none⟩ = some (.int .i64 e) := kept1 k59 hb7
  have k72 : W7.cell? ⟨w.heap.size + 1, 1, none⟩ = some (.int .i64 f) := kept1 k60 hb7
  have k73 : W7.cell? ⟨w.heap.size + 1, 2, none⟩ = some (.int .i64 g) := kept1 k61 hb7
  have k74 : W7.cell? ⟨w.heap.size + 1, 3, none⟩ = some (.int .i64 h) := kept1 k62 hb7
  have k75 : W7.cell? ⟨w.heap.size + 1 + 1, 0, none⟩ = some (.int .i64 i) := kept1 k63 hb7
  have k76 : W7.cell? ⟨w.heap.size + 1 + 1, 1, none⟩ = some (.int .i64 j) := kept1 k64 hb7
  have k77 : W7.cell? ⟨W3.heap.size, 0, none⟩ = some (.int .i64 p) := kept1 k65 hb7
  have k78 : W7.cell? ⟨W3.heap.size, 1, none⟩ = some (.int .i64 q) := kept1 k66 hb7
  have lk67 : w.heap.size < W7.heap.size := block_lt_of_cell k67
  have lk71 : w.heap.size + 1 < W7.heap.size := block_lt_of_cell k71
  have lk75 : w.heap.size + 1 + 1 < W7.heap.size := block_lt_of_cell k75
  have lk77 : W3.heap.size < W7.heap.size := block_lt_of_cell k77
  have hv7 : Below w.heap.size w W7 := bstep0 hv6 hb7
  clear hb7 hv6 k55 k56 k57 k58 k59 k60 k61 k62 k63 k64 k65 k66 lk55 lk59 lk63 lk65
  go_wp2
  go_ret
  exact ⟨by first | rfl | simp, (by repeat (first | with_reducible exact Below.refl _ _ | with_reducible assumption | refine below_drewN ?_ _ | refine Below.drew ?_ | refine Below.alloc ?_ (by first | (simp; done) | (simp; omega) | omega) _ | refine Below.setCell ?_ (by first | (simp; done) | (simp; omega) | omega) _ | refine Below.trans ?_ (Below.mono (by assumption) (by first | (simp; done) | (simp; omega) | omega))))⟩

set_option maxRecDepth 100000 in
set_option maxHeartbeats 2000000 in
theorem least_F1 (a b c d e f g h i j : Int) (p q : Int) (hx : Hid (vrP a b c d)) (ha : Hid (Rt.vldP i j)) (HS : Hid (∀ W : World, Calls Tryd.prog 49 #[.agg #[.int .i64 a, .int .i64 b, .int .i64 c, .int .i64 d]] W fun e w' => e = .returned (.tuple #[.agg #[.int .i64 p, .int .i64 q], .int .i64 0]) ∧ Below W.heap.size W w')) (H1 : Hid (∀ W : World, Calls Tryd.prog 55 #[.agg #[.int .i64 a, .int .i64 b, .int .i64 c, .int .i64 d], .agg #[.int .i64 p, .int .i64 q]] W fun e w' => e = .returned (.bool true) ∧ Below W.heap.size W w')) (H2 : Hid (∀ W : World, Calls Tryd.prog 55 #[.agg #[.int .i64 a, .int .i64 b, .int .i64 c, .int .i64 d], .agg #[.int .i64 i, .int .i64 j]] W fun e w' => e = .returned (.bool false) ∧ Below W.heap.size W w')) (hy : Hid (vrP e f g h)) (H3 : Hid (∀ W : World, Calls Tryd.prog 55 #[.agg #[.int .i64 a, .int .i64 b, .int .i64 c, .int .i64 d], .agg #[.int .i64 e, .int .i64 f]] W fun e w' => e = .returned (.bool false) ∧ Below W.heap.size W w')) (w : World) (hT : Hid (Tab w.heap.size w)) :
    Calls Tryd.prog 14 #[.agg #[.int .i64 a, .int .i64 b, .int .i64 c, .int .i64 d], .agg #[.int .i64 e, .int .i64 f, .int .i64 g, .int .i64 h], .agg #[.int .i64 i, .int .i64 j]] w fun e w' => e = .returned (.bool true) ∧ Below w.heap.size w w' := by
  go_enter Tryd.func14, Tryd.ntmps14
  go_wp2_with fail
  refine (rvrange_yes a b c d _ hx.out).mono ?_
  rintro e W1 ⟨rfl, hb1⟩
  have k1 : W1.cell? ⟨w.heap.size, 0, none⟩ = some (.int .i64 a) := kept1 (by simp [go_sem]) hb1
  have k2 : W1.cell? ⟨w.heap.size, 1, none⟩ = some (.int .i64 b) := kept1 (by simp [go_sem]) hb1
  have k3 : W1.cell? ⟨w.heap.size, 2, none⟩ = some (.int .i64 c) := kept1 (by simp [go_sem]) hb1
  have k4 : W1.cell? ⟨w.heap.size, 3, none⟩ = some (.int .i64 d) := kept1 (by simp [go_sem]) hb1
  have k5 : W1.cell? ⟨w.heap.size + 1, 0, none⟩ = some (.int .i64 e) := kept1 (by simp [go_sem]) hb1
  have k6 : W1.cell? ⟨w.heap.size + 1, 1, none⟩ = some (.int .i64 f) := kept1 (by simp [go_sem]) hb1
  have k7 : W1.cell? ⟨w.heap.size + 1, 2, none⟩ = some (.int .i64 g) := kept1 (by simp [go_sem]) hb1
  have k8 : W1.cell? ⟨w.heap.size + 1, 3, none⟩ = some (.int .i64 h) := kept1 (by simp [go_sem]) hb1
  have k9 : W1.cell? ⟨w.heap.size + 1 + 1, 0, none⟩ = some (.int .i64 i) := kept1 (by simp [go_sem]) hb1
  have k10 : W1.cell? ⟨w.heap.size + 1 + 1, 1, none⟩ = some (.int .i64 j) := kept1 (by simp [go_sem]) hb1
  have lk1 : w.heap.size < W1.heap.size := block_lt_of_cell k1
  have lk5 : w.heap.size + 1 < W1.heap.size := block_lt_of_cell k5
  have lk9 : w.heap.size + 1 + 1 < W1.heap.size := block_lt_of_cell k9
  have hv1 : Below w.heap.size w W1 := bstep3 (Below.refl _ _) hb1
  clear hb1  
  go_wp2_with fail
  refine (rvalid_yes i j _ ha.out).mono ?_
  rintro e W2 ⟨rfl, hb2⟩
  have k11 : W2.cell? ⟨w.heap.size, 0, none⟩ = some (.int .i64 a) := kept1 k1 hb2
  have k12 : W2.cell? ⟨w.heap.size, 1, none⟩ = some (.int .i64 b) := kept1 k2 hb2
  have k13 : W2.cell? ⟨w.heap.size, 2, none⟩ = some (.int .i64 c) := kept1 k3 hb2
  have k14 : W2.cell? ⟨w.heap.size, 3, none⟩ = some (.int .i64 d) := kept1 k4 hb2
  have k15 : W2.cell? ⟨w.heap.size + 1, 0, none⟩ = some (.int .i64 e) := kept1 k5 hb2
  have k16 : W2.cell? ⟨w.heap.size + 1, 1, none⟩ = some (.int .i64 f) := kept1 k6 hb2
  have k17 : W2.cell? ⟨w.heap.size + 1, 2, none⟩ = some (.int .i64 g) := kept1 k7 hb2
  have k18 : W2.cell? ⟨w.heap.size + 1, 3, none⟩ = some (.int .i64 h) := kept1 k8 hb2
  have k19 : W2.cell? ⟨w.heap.size + 1 + 1, 0, none⟩ = some (.int .i64 i) := kept1 k9 hb2
  have k20 : W2.cell? ⟨w.heap.size + 1 + 1, 1, none⟩ = some (.int .i64 j) := kept1 k10 hb2
  have lk11 : w.heap.size < W2.heap.size := block_lt_of_cell k11
  have lk15 : w.heap.size + 1 < W2.heap.size := block_lt_of_cell k15
  have lk19 : w.heap.size + 1 + 1 < W2.heap.size := block_lt_of_cell k19
  have hv2 : Below w.heap.size w W2 := bstep0 hv1 hb2
  clear hb2 hv1 k1 k2 k3 k4 k5 k6 k7 k8 k9 k10 lk1 lk5 lk9
  go_wp2_with fail
  refine (HS.out _).mono ?_
  rintro e W3 ⟨rfl, hb3⟩
  have k21 : W3.cell? ⟨w.heap.size, 0, none⟩ = some (.int .i64 a) := kept1 k11 hb3
  have k22 : W3.cell? ⟨w.heap.size, 1, none⟩ = some (.int .i64 b) := kept1 k12 hb3
  have k23 : W3.cell? ⟨w.heap.size, 2, none⟩ = some (.int .i64 c) := kept1 k13 hb3
  have k24 : W3.cell? ⟨w.heap.size, 3, none⟩ = some (.int .i64 d) := kept1 k14 hb3
  have k25 : W3.cell? ⟨w.heap.size + 1, 0, none⟩ = some (.int .i64 e) := kept1 k15 hb3
  have k26 : W3.cell? ⟨w.heap.size + 1, 1, none⟩ = some (.int .i64 f) := kept1 k16 hb3
  have k27 : W3.cell? ⟨w.heap.size + 1, 2, none⟩ = some (.int .i64 g) := kept1 k17 hb3
  have k28 : W3.cell? ⟨w.heap.size + 1, 3, none⟩ = some (.int .i64 h) := kept1 k18 hb3
  have k29 : W3.cell? ⟨w.heap.size + 1 + 1, 0, none⟩ = some (.int .i64 i) := kept1 k19 hb3
  have k30 : W3.cell? ⟨w.heap.size + 1 + 1, 1, none⟩ = some (.int .i64 j) := kept1 k20 hb3
  have lk21 : w.heap.size < W3.heap.size := block_lt_of_cell k21
  have lk25 : w.heap.size + 1 < W3.heap.size := block_lt_of_cell k25
  have lk29 : w.heap.size + 1 + 1 < W3.heap.size := block_lt_of_cell k29
  have hv3 : Below w.heap.size w W3 := bstep0 hv2 hb3
  clear hb3 hv2 k11 k12 k13 k14 k15 k16 k17 k18 k19 k20 lk11 lk15 lk19
  go_wp2_with fail
  refine (H1.out _).mono ?_
  rintro e W4 ⟨rfl, hb4⟩
  have k31 : W4.cell? ⟨w.heap.size, 0, none⟩ = some (.int .i64 a) := kept_a1 k21 hb4
  have k32 : W4.cell? ⟨w.heap.size, 1, none⟩ = some (.int .i64 b) := kept_a1 k22 hb4
  have k33 : W4.cell? ⟨w.heap.size, 2, none⟩ = some (.int .i64 c) := kept_a1 k23 hb4
  have k34 : W4.cell? ⟨w.heap.size, 3, none⟩ = some (.int .i64 d) := kept_a1 k24 hb4
  have k35 : W4.cell? ⟨w.heap.size + 1, 0, none⟩ = some (.int .i64 e) := kept_a1 k25 hb4
  have k36 : W4.cell? ⟨w.heap.size + 1, 1, none⟩ = some (.int .i64 f) := kept_a1 k26 hb4
  have k37 : W4.cell? ⟨w.heap.size + 1, 2, none⟩ = some (.int .i64 g) := kept_a1 k27 hb4
  have k38 : W4.cell? ⟨w.heap.size + 1, 3, none⟩ = some (.int .i64 h) := kept_a1 k28 hb4
  have k39 : W4.cell? ⟨w.heap.size + 1 + 1, 0, none⟩ = some (.int .i64 i) := kept_a1 k29 hb4
  have k40 : W4.cell? ⟨w.heap.size + 1 + 1, 1, none⟩ = some (.int .i64 j) := kept_a1 k30 hb4
  have k41 : W4.cell? ⟨W3.heap.size, 0, none⟩ = some (.int .i64 p) := kept1 (by simp [go_sem]) hb4
  have k42 : W4.cell? ⟨W3.heap.size, 1, none⟩ = some (.int .i64 q) := kept1 (by simp [go_sem]) hb4
  have lk31 : w.heap.size < W4.heap.size := block_lt_of_cell k31
  have lk35 : w.heap.size + 1 < W4.heap.size := block_lt_of_cell k35
  have lk39 : w.heap.size + 1 + 1 < W4.heap.size := block_lt_of_cell k39
  have lk41 : W3.heap.size < W4.heap.size := block_lt_of_cell k41
  have hv4 : Below w.heap.size w W4 := bstep1 hv3 hb4
  clear hb4 hv3 k21 k22 k23 k24 k25 k26 k27 k28 k29 k30 lk21 lk25 lk29
  go_wp2_with fail
  refine (H2.out _).mono ?_
  rintro e W5 ⟨rfl, hb5⟩
  have k43 : W5.cell? ⟨w.heap.size, 0, none⟩ = some (.int .i64 a) := kept1 k31 hb5
  have k44 : W5.cell? ⟨w.heap.size, 1, none⟩ = some (.int .i64 b) := kept1 k32 hb5
  have k45 : W5.cell? ⟨w.heap.size, 2, none⟩ = some (.int .i64 c) := kept1 k33 hb5
  have k46 : W5.cell? ⟨w.heap.size, 3, none⟩ = some (.int .i64 d) := kept1 k34 hb5
  have k47 : W5.cell? ⟨w.heap.size + 1, 0, none⟩ = some (.int .i64 e) := kept1 k35 hb5
  have k48 : W5.cell? ⟨w.heap.size + 1, 1, none⟩ = some (.int .i64 f) := kept1 k36 hb5
  have k49 : W5.cell? ⟨w.heap.size + 1, 2, none⟩ = some (.int .i64 g) := kept1 k37 hb5
  have k50 : W5.cell? ⟨w.heap.size + 1, 3, none⟩ = some (.int .i64 h) := kept1 k38 hb5
  have k51 : W5.cell? ⟨w.heap.size + 1 + 1, 0, none⟩ = some (.int .i64 i) := kept1 k39 hb5
  have k52 : W5.cell? ⟨w.heap.size + 1 + 1, 1, none⟩ = some (.int .i64 j) := kept1 k40 hb5
  have k53 : W5.cell? ⟨W3.heap.size, 0, none⟩ = some (.int .i64 p) := kept1 k41 hb5
  have k54 : W5.cell? ⟨W3.heap.size, 1, none⟩ = some (.int .i64 q) := kept1 k42 hb5
  have lk43 : w.heap.size < W5.heap.size := block_lt_of_cell k43
  have lk47 : w.heap.size + 1 < W5.heap.size := block_lt_of_cell k47
  have lk51 : w.heap.size + 1 + 1 < W5.heap.size := block_lt_of_cell k51
  have lk53 : W3.heap.size < W5.heap.size := block_lt_of_cell k53
  have hv5 : Below w.heap.size w W5 := bstep0 hv4 hb5
  clear hb5 hv4 k31 k32 k33 k34 k35 k36 k37 k38 k39 k40 k41 k42 lk31 lk35 lk39 lk41
  go_wp2_with fail
  refine (rvrange_yes e f g h _ hy.out).mono ?_
  rintro e W6 ⟨rfl, hb6⟩
  have k55 : W6.cell? ⟨w.heap.size, 0, none⟩ = some (.int .i64 a) := kept1 k43 hb6
  have k56 : W6.cell? ⟨w.heap.size, 1, none⟩ = some (.int .i64 b) := kept1 k44 hb6
  have k57 : W6.cell? ⟨w.heap.size, 2, none⟩ = some (.int .i64 c) := kept1 k45 hb6
  have k58 : W6.cell? ⟨w.heap.size, 3, none⟩ = some (.int .i64 d) := kept1 k46 hb6
  have k59 : W6.cell? ⟨w.heap.size + 1, 0, none⟩ = some (.int .i64 e) := kept1 k47 hb6
  have k60 : W6.cell? ⟨w.heap.size + 1, 1, none⟩ = some (.int .i64 f) := kept1 k48 hb6
  have k61 : W6.cell? ⟨w.heap.size + 1, 2, none⟩ = some (.int .i64 g) := kept1 k49 hb6
  have k62 : W6.cell? ⟨w.heap.size + 1, 3, none⟩ = some (.int .i64 h) := kept1 k50 hb6
  have k63 : W6.cell? ⟨w.heap.size + 1 + 1, 0, none⟩ = some (.int .i64 i) := kept1 k51 hb6
  have k64 : W6.cell? ⟨w.heap.size + 1 + 1, 1, none⟩ = some (.int .i64 j) := kept1 k52 hb6
  have k65 : W6.cell? ⟨W3.heap.size, 0, none⟩ = some (.int .i64 p) := kept1 k53 hb6
  have k66 : W6.cell? ⟨W3.heap.size, 1, none⟩ = some (.int .i64 q) := kept1 k54 hb6
  have lk55 : w.heap.size < W6.heap.size := block_lt_of_cell k55
  have lk59 : w.heap.size + 1 < W6.heap.size := block_lt_of_cell k59
  have lk63 : w.heap.size + 1 + 1 < W6.heap.size := block_lt_of_cell k63
  have lk65 : W3.heap.size < W6.heap.size := block_lt_of_cell k65
  have hv6 : Below w.heap.size w W6 := bstep0 hv5 hb6
  clear hb6 hv5 k43 k44 k45 k46 k47 k48 k49 k50 k51 k52 k53 k54 lk43 lk47 lk51 lk53
  go_wp2_with fail
  refine (H3.out _).mono ?_
  rintro e W7 ⟨rfl, hb7⟩
  have k67 : W7.cell? ⟨w.heap.size, 0, none⟩ = some (.int .i64 a) := kept1 k55 hb7
  have k68 : W7.cell? ⟨w.heap.size, 1, none⟩ = some (.int .i64 b) := kept1 k56 hb7
  have k69 : W7.cell? ⟨w.heap.size, 2, none⟩ = some (.int .i64 c) := kept1 k57 hb7
  have k70 : W7.cell? ⟨w.heap.size, 3, none⟩ = some (.int .i64 d) := kept1 k58 hb7
  have k71 : W7.cell? ⟨w.heap.size + 1, 0, none⟩ = some (.int .i64 e) := kept1 k59 hb7
  have k72 : W7.cell? ⟨w.heap.size + 1, 1, none⟩ = some (.int .i64 f) := kept1 k60 hb7
  have k73 : W7.cell? ⟨w.heap.size + 1, 2, none⟩ = some (.int .i64 g) := kept1 k61 hb7
  have k74 : W7.cell? ⟨w.heap.size + 1, 3, none⟩ = some (.int .i64 h) := kept1 k62 hb7
  have k75 : W7.cell? ⟨w.heap.size + 1 + 1, 0, none⟩ = some (.int .i64 i) := kept1 k63 hb7
  have k76 : W7.cell? ⟨w.heap.size + 1 + 1, 1, none⟩ = some (.int .i64 j) := kept1 k64 hb7
  have k77 : W7.cell? ⟨W3.heap.size, 0, none⟩ = some (.int .i64 p) := kept1 k65 hb7
  have k78 : W7.cell? ⟨W3.heap.size, 1, none⟩ = some (.int .i64 q) := kept1 k66 hb7
  have lk67 : w.heap.size < W7.heap.size := block_lt_of_cell k67
  have lk71 : w.heap.size + 1 < W7.heap.size := block_lt_of_cell k71
  have lk75 : w.heap.size + 1 + 1 < W7.heap.size := block_lt_of_cell k75
  have lk77 : W3.heap.size < W7.heap.size := block_lt_of_cell k77
  have hv7 : Below w.heap.size w W7 := bstep0 hv6 hb7
  clear hb7 hv6 k55 k56 k57 k58 k59 k60 k61 k62 k63 k64 k65 k66 lk55 lk59 lk63 lk65
  go_wp2_with fail
  refine (sanity_tab hT _ hv7).mono ?_
  rintro e W8 ⟨rfl, hb8⟩
  have k79 : W8.cell? ⟨w.heap.size, 0, none⟩ = some (.int .i64 a) := kept1 k67 hb8
  have k80 : W8.cell? ⟨w.heap.size, 1, none⟩ = some (.int .i64 b) := kept1 k68 hb8
  have k81 : W8.cell? ⟨w.heap.size, 2, none⟩ = some (.int .i64 c) := kept1 k69 hb8
  have k82 : W8.cell? ⟨w.heap.size, 3, none⟩ = some (.int .i64 d) := kept1 k70 hb8
  have k83 : W8.cell? ⟨w.heap.size + 1, 0, none⟩ = some (.int .i64 e) := kept1 k71 hb8
  have k84 : W8.cell? ⟨w.heap.size + 1, 1, none⟩ = some (.int .i64 f) := kept1 k72 hb8
  have k85 : W8.cell? ⟨w.heap.size + 1, 2, none⟩ = some (.int .i64 g) := kept1 k73 hb8
  have k86 : W8.cell? ⟨w.heap.size + 1, 3, none⟩ = some (.int .i64 h) := kept1 k74 hb8
  have k87 : W8.cell? ⟨w.heap.size + 1 + 1, 0, none⟩ = some (.int .i64 i) := kept1 k75 hb8
  have k88 : W8.cell? ⟨w.heap.size + 1 + 1, 1, none⟩ = some (.int .i64 j) := kept1 k76 hb8
  have k89 : W8.cell? ⟨W3.heap.size, 0, none⟩ = some (.int .i64 p) := kept1 k77 hb8
  have k90 : W8.cell? ⟨W3.heap.size, 1, none⟩ = some (.int .i64 q) := kept1 k78 hb8
  have lk79 : w.heap.size < W8.heap.size := block_lt_of_cell k79
  have lk83 : w.heap.size + 1 < W8.heap.size := block_lt_of_cell k83
  have lk87 : w.heap.size + 1 + 1 < W8.heap.size := block_lt_of_cell k87
  have lk89 : W3.heap.size < W8.heap.size := block_lt_of_cell k89
  have hv8 : Below w.heap.size w W8 := bstep0 hv7 hb8
  clear hb8 hv7 k67 k68 k69 k70 k71 k72 k73 k74 k75 k76 k77 k78 lk67 lk71 lk75 lk77
  go_wp2
  go_ret
  exact ⟨by first | rfl | simp, (by repeat (first | with_reducible exact Below.refl _ _ | with_reducible assumption | refine below_drewN ?_ _ | refine Below.drew ?_ | refine Below.alloc ?_ (by first | (simp; done) | (simp; omega) | omega) _ | refine Below.setCell ?_ (by first | (simp; done) | (simp; omega) | omega) _ | refine Below.trans ?_ (Below.mono (by assumption) (by first | (simp; done) | (simp; omega) | omega))))⟩

set_option maxRecDepth 100000 in
set_option maxHeartbeats 2000000 in
theorem least_F2 (a b c d e f g h i j : Int) (p q : Int) (hx : Hid (vrP a b c d)) (ha : Hid (Rt.vldP i j)) (HS : Hid (∀ W : World, Calls Tryd.prog 49 #[.agg #[.int .i64 a, .int .i64 b, .int .i64 c, .int .i64 d]] W fun e w' => e = .returned (.tuple #[.agg #[.int .i64 p, .int .i64 q], .int .i64 0]) ∧ Below W.heap.size W w')) (H1 : Hid (∀ W : World, Calls Tryd.prog 55 #[.agg #[.int .i64 a, .int .i64 b, .int .i64 c, .int .i64 d], .agg #[.int .i64 p, .int .i64 q]] W fun e w' => e = .returned (.bool true) ∧ Below W.heap.size W w')) (H2 : Hid (∀ W : World, Calls Tryd.prog 55 #[.agg #[.int .i64 a, .int .i64 b, .int .i64 c, .int .i64 d], .agg #[.int .i64 i, .int .i64 j]] W fun e w' => e = .returned (.bool false) ∧ Below W.heap.size W w')) (hy : Hid (vrP e f g h)) (H3 : Hid (∀ W : World, Calls Tryd.prog 55 #[.agg #[.int .i64 a, .int .i64 b, .int .i64 c, .int .i64 d], .agg #[.int .i64 e, .int .i64 f]] W fun e w' => e = .returned (.bool true) ∧ Below W.heap.size W w')) (H4 : Hid (∀ W : World, Calls Tryd.prog 55 #[.agg #[.int .i64 a, .int .i64 b, .int .i64 c, .int .i64 d], .agg #[.int .i64 g, .int .i64 h]] W fun e w' => e = .returned (.bool false) ∧ Below W.heap.size W w')) (w : World) (hT : Hid (Tab w.heap.size w)) :
    Calls Tryd.prog 14 #[.agg #[.int .i64 a, .int .i64 b, .int .i64 c, .int .i64 d], .agg #[.int .i64 e, .int .i64 f, .int .i64 g, .int .i64 h], .agg #[.int .i64 i, .int .i64 j]] w fun e w' => e = .returned (.bool true) ∧ Below w.heap.size w w' := by
  go_enter Tryd.func14, Tryd.ntmps14
  go_wp2_with fail
  refine (rvrange_yes a b c d _ hx.out).mono ?_
  rintro e W1 ⟨rfl, hb1⟩
  have k1 : W1.cell? ⟨w.heap.size, 0, none⟩ = some (.int .i64 a) := kept1 (by simp [go_sem]) hb1
  have k2 : W1.cell? ⟨w.heap.size, 1, none⟩ = some (.int .i64 b) := kept1 (by simp [go_sem]) hb1
  have k3 : W1.cell? ⟨w.heap.size, 2, none⟩ = some (.int .i64 c) := kept1 (by simp [go_sem]) hb1
  have k4 : W1.cell? ⟨w.heap.size, 3, none⟩ = some (.int .i64 d) := kept1 (by simp [go_sem]) hb1
  have k5 : W1.cell? ⟨w.heap.size + 1, 0, none⟩ = some (.int .i64 e) := kept1 (by simp [go_sem]) hb1
  have k6 : W1.cell? ⟨w.heap.size + 1, 1, none⟩ = some (.int .i64 f) := kept1 (by simp [go_sem]) hb1
  have k7 : W1.cell? ⟨w.heap.size + 1, 2, none⟩ = some (.int .i64 g) := kept1 (by simp [go_sem]) hb1
  have k8 : W1.cell? ⟨w.heap.size + 1, 3, none⟩ = some (.int .i64 h) := kept1 (by simp [go_sem]) hb1
  have k9 : W1.cell? ⟨w.heap.size + 1 + 1, 0, none⟩ = some (.int .i64 i) := kept1 (by simp [go_sem]) hb1
  have k10 : W1.cell? ⟨w.heap.size + 1 + 1, 1, none⟩ = some (.int .i64 j) := kept1 (by simp [go_sem]) hb1
  have lk1 : w.heap.size < W1.heap.size := block_lt_of_cell k1
  have lk5 : w.heap.size + 1 < W1.heap.size := block_lt_of_cell k5
  have lk9 : w.heap.size + 1 + 1 < W1.heap.size := block_lt_of_cell k9
  have hv1 : Below w.heap.size w W1 := bstep3 (Below.refl _ _) hb1
  clear hb1  
  go_wp2_with fail
  refine (rvalid_yes i j _ ha.out).mono ?_
  rintro e W2 ⟨rfl, hb2⟩
  have k11 : W2.cell? ⟨w.heap.size, 0, none⟩ = some (.int .i64 a) := kept1 k1 hb2
  have k12 : W2.cell? ⟨w.heap.size, 1, none⟩ = some (.int .i64 b) := kept1 k2 hb2
  have k13 : W2.cell? ⟨w.heap.size, 2, none⟩ = some (.int .i64 c) := kept1 k3 hb2
  have k14 : W2.cell? ⟨w.heap.size, 3, none⟩ = some (.int .i64 d) := kept1 k4 hb2
  have k15 : W2.cell? ⟨w.heap.size + 1, 0, none⟩ = some (.int .i64 e) := kept1 k5 hb2
  have k16 : W2.cell? ⟨w.heap.size + 1, 1, none⟩ = some (.int .i64 f) := kept1 k6 hb2
  have k17 : W2.cell? ⟨w.heap.size + 1, 2, none⟩ = some (.int .i64 g) := kept1 k7 hb2
  have k18 : W2.cell? ⟨w.heap.size + 1, 3, none⟩ = some (.int .i64 h) := kept1 k8 hb2
  have k19 : W2.cell? ⟨w.heap.size + 1 + 1, 0, none⟩ = some (.int .i64 i) := kept1 k9 hb2
  have k20 : W2.cell? ⟨w.heap.size + 1 + 1, 1, none⟩ = some (.int .i64 j) := kept1 k10 hb2
  have lk11 : w.heap.size < W2.heap.size := block_lt_of_cell k11
  have lk15 : w.heap.size + 1 < W2.heap.size := block_lt_of_cell k15
  have lk19 : w.heap.size + 1 + 1 < W2.heap.size := block_lt_of_cell k19
  have hv2 : Below w.heap.size w W2 := bstep0 hv1 hb2
  clear hb2 hv1 k1 k2 k3 k4 k5 k6 k7 k8 k9 k10 lk1 lk5 lk9
  go_wp2_with fail
  refine (HS.out _).mono ?_
  rintro e W3 ⟨rfl, hb3⟩
  have k21 : W3.cell? ⟨w.heap.size, 0, none⟩ = some (.int .i64 a) := kept1 k11 hb3
  have k22 : W3.cell? ⟨w.heap.size, 1, none⟩ = some (.int .i64 b) := kept1 k12 hb3
  have k23 : W3.cell? ⟨w.heap.size, 2, none⟩ = some (.int .i64 c) := kept1 k13 hb3
  have k24 : W3.cell? ⟨w.heap.size, 3, none⟩ = some (.int .i64 d) := kept1 k14 hb3
  have k25 : W3.cell? ⟨w.heap.size + 1, 0, none⟩ = some (.int .i64 e) := kept1 k15 hb3
  have k26 : W3.cell? ⟨w.heap.size + 1, 1, none⟩ = some (.int .i64 f) := kept1 k16 hb3
  have k27 : W3.cell? ⟨w.heap.size + 1, 2, none⟩ = some (.int .i64 g) := kept1 k17 hb3
  have k28 : W3.cell? ⟨w.heap.size + 1, 3, none⟩ = some (.int .i64 h) := kept1 k18 hb3
  have k29 : W3.cell? ⟨w.heap.size + 1 + 1, 0, none⟩ = some (.int .i64 i) := kept1 k19 hb3
  have k30 : W3.cell? ⟨w.heap.size + 1 + 1, 1, none⟩ = some (.int .i64 j) := kept1 k20 hb3
  have lk21 : w.heap.size < W3.heap.size := block_lt_of_cell k21
  have lk25 : w.heap.size + 1 < W3.heap.size := block_lt_of_cell k25
  have lk29 : w.heap.size + 1 + 1 < W3.heap.size := block_lt_of_cell k29
  have hv3 : Below w.heap.size w W3 := bstep0 hv2 hb3
  clear hb3 hv2 k11 k12 k13 k14 k15 k16 k17 k18 k19 k20 lk11 lk15 lk19
  go_wp2_with fail
  refine (H1.out _).mono ?_
  rintro e W4 ⟨rfl, hb4⟩
  have k31 : W4.cell? ⟨w.heap.size, 0, none⟩ = some (.int .i64 a) := kept_a1 k21 hb4
  have k32 : W4.cell? ⟨w.heap.size, 1, none⟩ = some (.int .i64 b) := kept_a1 k22 hb4
  have k33 : W4.cell? ⟨w.heap.size, 2, none⟩ = some (.int .i64 c) := kept_a1 k23 hb4
  have k34 : W4.cell? ⟨w.heap.size, 3, none⟩ = some (.int .i64 d) := kept_a1 k24 hb4
  have k35 : W4.cell? ⟨w.heap.size + 1, 0, none⟩ = some (.int .i64 e) := kept_a1 k25 hb4
  have k36 : W4.cell? ⟨w.heap.size + 1, 1, none⟩ = some (.int .i64 f) := kept_a1 k26 hb4
  have k37 : W4.cell? ⟨w.heap.size + 1, 2, none⟩ = some (.int .i64 g) := kept_a1 k27 hb4
  have k38 : W4.cell? ⟨w.heap.size + 1, 3, none⟩ = some (.int .i64 h) := kept_a1 k28 hb4
  have k39 : W4.cell? ⟨w.heap.size + 1 + 1, 0, none⟩ = some (.int .i64 i) := kept_a1 k29 hb4
  have k40 : W4.cell? ⟨w.heap.size + 1 + 1, 1, none⟩ = some (.int .i64 j) := kept_a1 k30 hb4
  have k41 : W4.cell? ⟨W3.heap.size, 0, none⟩ = some (.int .i64 p) := kept1 (by simp [go_sem]) hb4
  have k42 : W4.cell? ⟨W3.heap.size, 1, none⟩ = some (.int .i64 q) := kept1 (by simp [go_sem]) hb4
  have lk31 : w.heap.size < W4.heap.size := block_lt_of_cell k31
  have lk35 : w.heap.size + 1 < W4.heap.size := block_lt_of_cell k35
  have lk39 : w.heap.size + 1 + 1 < W4.heap.size := block_lt_of_cell k39
  have lk41 : W3.heap.size < W4.heap.size := block_lt_of_cell k41
  have hv4 : Below w.heap.size w W4 := bstep1 hv3 hb4
  clear hb4 hv3 k21 k22 k23 k24 k25 k26 k27 k28 k29 k30 lk21 lk25 lk29
  go_wp2_with fail
  refine (H2.out _).mono ?_
  rintro e W5 ⟨rfl, hb5⟩
  have k43 : W5.cell? ⟨w.heap.size, 0, none⟩ = some (.int .i64 a) := kept1 k31 hb5
  have k44 : W5.cell? ⟨w.heap.size, 1, none⟩ = some (.int .i64 b) := kept1 k32 hb5
  have k45 : W5.cell? ⟨w.heap.size, 2, none⟩ = some (.int .i64 c) := kept1 k33 hb5
  have k46 : W5.cell? ⟨w.heap.size, 3, none⟩ = some (.int .i64 d) := kept1 k34 hb5
  have k47 : W5.cell? ⟨w.heap.size + 1, 0, none⟩ = some (.int .i64 e) := kept1 k35 hb5
  have k48 : W5.cell? ⟨w.heap.size + 1, 1, none⟩ = some (.int .i64 f) := kept1 k36 hb5
  have k49 : W5.cell? ⟨w.heap.size + 1, 2, none⟩ = some (.int .i64 g) := kept1 k37 hb5
  have k50 : W5.cell? ⟨w.heap.size + 1, 3, none⟩ = some (.int .i64 h) := kept1 k38 hb5
  have k51 : W5.cell? ⟨w.heap.size + 1 + 1, 0, none⟩ = some (.int .i64 i) := kept1 k39 hb5
  have k52 : W5.cell? ⟨w.heap.size + 1 + 1, 1, none⟩ = some (.int .i64 j) := kept1 k40 hb5
  have k53 : W5.cell? ⟨W3.heap.size, 0, none⟩ = some (.int .i64 p) := kept1 k41 hb5
  have k54 : W5.cell? ⟨W3.heap.size, 1, none⟩ = some (.int .i64 q) := kept1 k42 hb5
  have lk43 : w.heap.size < W5.heap.size := block_lt_of_cell k43
  have lk47 : w.heap.size + 1 < W5.heap.size := block_lt_of_cell k47
  have lk51 : w.heap.size + 1 + 1 < W5.heap.size := block_lt_of_cell k51
  have lk53 : W3.heap.size < W5.heap.size := block_lt_of_cell k53
  have hv5 : Below w.heap.size w W5 := bstep0 hv4 hb5
  clear hb5 hv4 k31 k32 k33 k34 k35 k36 k37 k38 k39 k40 k41 k42 lk31 lk35 lk39 lk41
  go_wp2_with fail
  refine (rvrange_yes e f g h _ hy.out).mono ?_
  rintro e W6 ⟨rfl, hb6⟩
  have k55 : W6.cell? ⟨w.heap.size, 0, none⟩ = some (.int .i64 a) := kept1 k43 hb6
  have k56 : W6.cell? ⟨w.heap.size, 1, none⟩ = some (.int .i64 b) := kept1 k44 hb6
  have k57 : W6.cell? ⟨w.heap.size, 2, none⟩ = some (.int .i64 c) := kept1 k45 hb6
  have k58 : W6.cell? ⟨w.heap.size, 3, none⟩ = some (.int .i64 d) := kept1 k46 hb6
  have k59 : W6.cell? ⟨w.heap.size + 1, 0, none⟩ = some (.int .i64 e) := kept1 k47 hb6
  have k60 : W6.cell? ⟨w.heap.size + 1, 1, none⟩ = some (.int .i64 f) := kept1 k48 hb6
  have k61 : W6.cell? ⟨w.heap.size + 1, 2, none⟩ = some (.int .i64 g) := kept1 k49 hb6
  have k62 : W6.cell? ⟨w.heap.size + 1, 3, none⟩ = some (.int .i64 h) := kept1 k50 hb6
  have k63 : W6.cell? ⟨w.heap.size + 1 + 1, 0, none⟩ = some (.int .i64 i) := kept1 k51 hb6
  have k64 : W6.cell? ⟨w.heap.size + 1 + 1, 1, none⟩ = some (.int .i64 j) := kept1 k52 hb6
  have k65 : W6.cell? ⟨W3.heap.size, 0, none⟩ = some (.int .i64 p) := kept1 k53 hb6
  have k66 : W6.cell? ⟨W3.heap.size, 1, none⟩ = some (.int .i64 q) := kept1 k54 hb6
  have lk55 : w.heap.size < W6.heap.size := block_lt_of_cell k55
  have lk59 : w.heap.size + 1 < W6.heap.size := block_lt_of_cell k59
  have lk63 : w.heap.size + 1 + 1 < W6.heap.size := block_lt_of_cell k63
  have lk65 : W3.heap.size < W6.heap.size := block_lt_of_cell k65
  have hv6 : Below w.heap.size w W6 := bstep0 hv5 hb6
  clear hb6 hv5 k43 k44 k45 k46 k47 k48 k49 k50 k51 k52 k53 k54 lk43 lk47 lk51 lk53
  go_wp2_with fail
  refine (H3.out _).mono ?_
  rintro e W7 ⟨rfl, hb7⟩
  have k67 : W7.cell? ⟨w.heap.size, 0, none⟩ = some (.int .i64 a) := kept1 k55 hb7
  have k68 : W7.cell? ⟨w.heap.size, 1, none⟩ = some (.int .i64 b) := kept1 k56 hb7
  have k69 : W7.cell? ⟨w.heap.size, 2, none⟩ = some (.int .i64 c) := kept1 k57 hb7
  have k70 : W7.cell? ⟨w.heap.size, 3, none⟩ = some (.int .i64 d) := kept1 k58 hb7
  have k71 : W7.cell? ⟨w.heap.size + 1, 0, none⟩ = some (.int .i64 e) := kept1 k59 hb7
  have k72 : W7.cell? ⟨w.heap.size + 1, 1, none⟩ = some (.int .i64 f) := kept1 k60 hb7
  have k73 : W7.cell? ⟨w.heap.size + 1, 2, none⟩ = some (.int .i64 g) := kept1 k61 hb7
  have k74 : W7.cell? ⟨w.heap.size + 1, 3, none⟩ = some (.int .i64 h) := kept1 k62 hb7
  have k75 : W7.cell? ⟨w.heap.size + 1 + 1, 0, none⟩ = some (.int .i64 i) := kept1 k63 hb7
  have k76 : W7.cell? ⟨w.heap.size + 1 + 1, 1, none⟩ = some (.int .i64 j) := kept1 k64 hb7
  have k77 : W7.cell? ⟨W3.heap.size, 0, none⟩ = some (.int .i64 p) := kept1 k65 hb7
  have k78 : W7.cell? ⟨W3.heap.size, 1, none⟩ = some (.int .i64 q) := kept1 k66 hb7
  have lk67 : w.heap.size < W7.heap.size := block_lt_of_cell k67
  have lk71 : w.heap.size + 1 < W7.heap.size := block_lt_of_cell k71
  have lk75 : w.heap.size + 1 + 1 < W7.heap.size := block_lt_of_cell k75
  have lk77 : W3.heap.size < W7.heap.size := block_lt_of_cell k77
  have hv7 : Below w.heap.size w W7 := bstep0 hv6 hb7
  clear hb7 hv6 k55 k56 k57 k58 k59 k60 k61 k62 k63 k64 k65 k66 lk55 lk59 lk63 lk65
  go_wp2_with fail
  refine (H4.out _).mono ?_
  rintro e W8 ⟨rfl, hb8⟩
  have k79 : W8.cell? ⟨w.heap.size, 0, none⟩ = some (.int .i64 a) := kept1 k67 hb8
  have k80 : W8.cell? ⟨w.heap.size, 1, none⟩ = some (.int .i64 b) := kept1 k68 hb8
  have k81 : W8.cell? ⟨w.heap.size, 2, none⟩ = some (.int .i64 c) := kept1 k69 hb8
  have k82 : W8.cell? ⟨w.heap.size, 3, none⟩ = some (.int .i64 d) := kept1 k70 hb8
  have k83 : W8.cell? ⟨w.heap.size + 1, 0, none⟩ = some (.int .i64 e) := kept1 k71 hb8
  have k84 : W8.cell? ⟨w.heap.size + 1, 1, none⟩ = some (.int .i64 f) := kept1 k72 hb8
  have k85 : W8.cell? ⟨w.heap.size + 1, 2, none⟩ = some (.int .i64 g) := kept1 k73 hb8
  have k86 : W8.cell? ⟨w.heap.size + 1, 3, none⟩ = some (.int .i64 h) := kept1 k74 hb8
  have k87 : W8.cell? ⟨w.heap.size + 1 + 1, 0, none⟩ = some (.int .i64 i) := kept1 k75 hb8
  have k88 : W8.cell? ⟨w.heap.size + 1 + 1, 1, none⟩ = some (.int .i64 j) := kept1 k76 hb8
  have k89 : W8.cell? ⟨W3.heap.size, 0, none⟩ = some (.int .i64 p) := kept1 k77 hb8
  have k90 : W8.cell? ⟨W3.heap.size, 1, none⟩ = some (.int .i64 q) := kept1 k78 hb8
  have lk79 : w.heap.size < W8.heap.size := block_lt_of_cell k79
  have lk83 : w.heap.size + 1 < W8.heap.size := block_lt_of_cell k83
  have lk87 : w.heap.size + 1 + 1 < W8.heap.size := block_lt_of_cell k87
  have lk89 : W3.heap.size < W8.heap.size := block_lt_of_cell k89
  have hv8 : Below w.heap.size w W8 := bstep0 hv7 hb8
  clear hb8 hv7 k67 k68 k69 k70 k71 k72 k73 k74 k75 k76 k77 k78 lk67 lk71 lk75 lk77
  go_wp2_with fail
  refine (sanity_tab hT _ hv8).mono ?_
  rintro e W9 ⟨rfl, hb9⟩
  have k91 : W9.cell? ⟨w.heap.size, 0, none⟩ = some (.int .i64 a) := kept1 k79 hb9
  have k92 : W9.cell? ⟨w.heap.size, 1, none⟩ = some (.int .i64 b) := kept1 k80 hb9
  have k93 : W9.cell? ⟨w.heap.size, 2, none⟩ = some (.int .i64 c) := kept1 k81 hb9
  have k94 : W9.cell? ⟨w.heap.size, 3, none⟩ = some (.int .i64 d) := kept1 k82 hb9
  have k95 : W9.cell? ⟨w.heap.size + 1, 0, none⟩ = some (.int .i64 e) := kept1 k83 hb9
  have k96 : W9.cell? ⟨w.heap.size + 1, 1, none⟩ = some (.int .i64 f) := kept1 k84 hb9
  have k97 : W9.cell? ⟨w.heap.size + 1, 2, none⟩ = some (.int .i64 g) := kept1 k85 hb9
  have k98 : W9.cell? ⟨w.heap.size + 1, 3, none⟩ = some (.int .i64 h) := kept1 k86 hb9
  have k99 : W9.cell? ⟨w.heap.size + 1 + 1, 0, none⟩ = some (.int .i64 i) := kept1 k87 hb9
  have k100 : W9.cell? ⟨w.heap.size + 1 + 1, 1, none⟩ = some (.int .i64 j) := kept1 k88 hb9
  have k101 : W9.cell? ⟨W3.heap.size, 0, none⟩ = some (.int .i64 p) := kept1 k89 hb9
  have k102 : W9.cell? ⟨W3.heap.size, 1, none⟩ = some (.int .i64 q) := kept1 k90 hb9
  have lk91 : w.heap.size < W9.heap.size := block_lt_of_cell k91
  have lk95 : w.heap.size + 1 < W9.heap.size := block_lt_of_cell k95
  have lk99 : w.heap.size + 1 + 1 < W9.heap.size := block_lt_of_cell k99
  have lk101 : W3.heap.size < W9.heap.size := block_lt_of_cell k101
  have hv9 : Below w.heap.size w W9 := bstep0 hv8 hb9
  clear hb9 hv8 k79 k80 k81 k82 k83 k84 k85 k86 k87 k88 k89 k90 lk79 lk83 lk87 lk89
  go_wp2
  go_ret
  exact ⟨by first | rfl | simp, (by repeat (first | with_reducible exact Below.refl _ _ | with_reducible assumption | refine below_drewN ?_ _ | refine Below.drew ?_ | refine Below.alloc ?_ (by first | (simp; done) | (simp; omega) | omega) _ | refine Below.setCell ?_ (by first | (simp; done) | (simp; omega) | omega) _ | refine Below.trans ?_ (Below.mono (by assumption) (by first | (simp; done) | (simp; omega) | omega))))⟩

set_option maxRecDepth 100000 in
set_option maxHeartbeats 2000000 in
theorem least_F3F (a b c d e f g h i j : Int) (p q u v : Int) (hx : Hid (vrP a b c d)) (ha : Hid (Rt.vldP i j)) (HS : Hid (∀ W : World, Calls Tryd.prog 49 #[.agg #[.int .i64 a, .int .i64 b, .int .i64 c, .int .i64 d]] W fun e w' => e = .returned (.tuple #[.agg #[.int .i64 p, .int .i64 q], .int .i64 0]) ∧ Below W.heap.size W w')) (H1 : Hid (∀ W : World, Calls Tryd.prog 55 #[.agg #[.int .i64 a, .int .i64 b, .int .i64 c, .int .i64 d], .agg #[.int .i64 p, .int .i64 q]] W fun e w' => e = .returned (.bool true) ∧ Below W.heap.size W w')) (H2 : Hid (∀ W : World, Calls Tryd.prog 55 #[.agg #[.int .i64 a, .int .i64 b, .int .i64 c, .int .i64 d], .agg #[.int .i64 i, .int .i64 j]] W fun e w' => e = .returned (.bool false) ∧ Below W.heap.size W w')) (hy : Hid (vrP e f g h)) (H3 : Hid (∀ W : World, Calls Tryd.prog 55 #[.agg #[.int .i64 a, .int .i64 b, .int .i64 c, .int .i64 d], .agg #[.int .i64 e, .int .i64 f]] W fun e w' => e = .returned (.bool true) ∧ Below W.heap.size W w')) (H4 : Hid (∀ W : World, Calls Tryd.prog 55 #[.agg #[.int .i64 a, .int .i64 b, .int .i64 c, .int .i64 d], .agg #[.int .i64 g, .int .i64 h]] W fun e w' => e = .returned (.bool true) ∧ Below W.heap.size W w')) (HR : Hid (∀ W : World, Calls Tryd.prog 49 #[.agg #[.int .i64 e, .int .i64 f, .int .i64 g, .int .i64 h]] W fun e w' => e = .returned (.tuple #[.agg #[.int .i64 u, .int .i64 v], .int .i64 0]) ∧ Below W.heap.size W w')) (m2 : q ≤ v) (H5 : Hid (∀ W : World, Calls Tryd.prog 55 #[.agg #[.int .i64 e, .int .i64 f, .int .i64 g, .int .i64 h], .agg #[.int .i64 p, .int .i64 q]] W fun e w' => e = .returned (.bool false) ∧ Below W.heap.size W w')) (w : World) (hT : Hid (Tab w.heap.size w)) :
    Calls Tryd.prog 14 #[.agg #[.int .i64 a, .int .i64 b, .int .i64 c, .int .i64 d], .agg #[.int .i64 e, .int .i64 f, .int .i64 g, .int .i64 h], .agg #[.int .i64 i, .int .i64 j]] w fun e w' => e = .returned (.bool true) ∧ Below w.heap.size w w' := by
  go_enter Tryd.func14, Tryd.ntmps14
  go_wp2_with fail
  refine (rvrange_yes a b c d _ hx.out).mono ?_
  rintro e W1 ⟨rfl, hb1⟩
  have k1 : W1.cell? ⟨w.heap.size, 0, none⟩ = some (.int .i64 a) := kept1 (by simp [go_sem]) hb1
  have k2 : W1.cell? ⟨w.heap.size, 1, none⟩ = some (.int .i64 b) := kept1 (by simp [go_sem]) hb1
  have k3 : W1.cell? ⟨w.heap.size, 2, none⟩ = some (.int .i64 c) := kept1 (by simp [go_sem]) hb1
  have k4 : W1.cell? ⟨w.heap.size, 3, none⟩ = some (.int .i64 d) := kept1 (by simp [go_sem]) hb1
  have k5 : W1.cell? ⟨w.heap.size + 1, 0, none⟩ = some (.int .i64 e) := kept1 (by simp [go_sem]) hb1
  have k6 : W1.cell? ⟨w.heap.size + 1, 1, none⟩ = some (.int .i64 f) := kept1 (by simp [go_sem]) hb1
  have k7 : W1.cell? ⟨w.heap.size + 1, 2, none⟩ = some (.int .i64 g) := kept1 (by simp [go_sem]) hb1
  have k8 : W1.cell? ⟨w.heap.size + 1, 3, none⟩ = some (.int .i64 h) := kept1 (by simp [go_sem]) hb1
  have k9 : W1.cell? ⟨w.heap.size + 1 + 1, 0, none⟩ = some (.int .i64 i) := kept1 (by simp [go_sem]) hb1
  have k10 : W1.cell? ⟨w.heap.size + 1 + 1, 1, none⟩ = some (.int .i64 j) := kept1 (by simp [go_sem]) hb1
  have lk1 : w.heap.size < W1.heap.size := block_lt_of_cell k1
  have lk5 : w.heap.size + 1 < W1.heap.size := block_lt_of_cell k5
  have lk9 : w.heap.size + 1 + 1 < W1.heap.size := block_lt_of_cell k9
  have hv1 : Below w.heap.size w W1 := bstep3 (Below.refl _ _) hb1
  clear hb1  
  go_wp2_with fail
  refine (rvalid_yes i j _ ha.out).mono ?_
  rintro e W2 ⟨rfl, hb2⟩
  have k11 : W2.cell? ⟨w.heap.size, 0, none⟩ = some (.int .i64 a) := kept1 k1 hb2
  have k12 : W2.cell? ⟨w.heap.size, 1, none⟩ = some (.int .i64 b) := kept1 k2 hb2
  have k13 : W2.cell? ⟨w.heap.size, 2, none⟩ = some (.int .i64 c) := kept1 k3 hb2
  have k14 : W2.cell? ⟨w.heap.size, 3, none⟩ = some (.int .i64 d) := kept1 k4 hb2
  have k15 : W2.cell? ⟨w.heap.size + 1, 0, none⟩ = some (.int .i64 e) := kept1 k5 hb2
  have k16 : W2.cell? ⟨w.heap.size + 1, 1, none⟩ = some (.int .i64 f) := kept1 k6 hb2
  have k17 : W2.cell? ⟨w.heap.size + 1, 2, none⟩ = some (.int .i64 g) := kept1 k7 hb2
  have k18 : W2.cell? ⟨w.heap.size + 1, 3, none⟩ = some (.int .i64 h) := kept1 k8 hb2
  have k19 : W2.cell? ⟨w.heap.size + 1 + 1, 0, none⟩ = some (.int .i64 i) := kept1 k9 hb2
  have k20 : W2.cell? ⟨w.heap.size + 1 + 1, 1, none⟩ = some (.int .i64 j) := kept1 k10 hb2
  have lk11 : w.heap.size < W2.heap.size := block_lt_of_cell k11
  have lk15 : w.heap.size + 1 < W2.heap.size := block_lt_of_cell k15
  have lk19 : w.heap.size + 1 + 1 < W2.heap.size := block_lt_of_cell k19
  have hv2 : Below w.heap.size w W2 := bstep0 hv1 hb2
  clear hb2 hv1 k1 k2 k3 k4 k5 k6 k7 k8 k9 k10 lk1 lk5 lk9
  go_wp2_with fail
  refine (HS.out _).mono ?_
  rintro e W3 ⟨rfl, hb3⟩
  have k21 : W3.cell? ⟨w.heap.size, 0, none⟩ = some (.int .i64 a) := kept1 k11 hb3
  have k22 : W3.cell? ⟨w.heap.size, 1, none⟩ = some (.int .i64 b) := kept1 k12 hb3
  have k23 : W3.cell? ⟨w.heap.size, 2, none⟩ = some (.int .i64 c) := kept1 k13 hb3
  have k24 : W3.cell? ⟨w.heap.size, 3, none⟩ = some (.int .i64 d) := kept1 k14 hb3
  have k25 : W3.cell? ⟨w.heap.size + 1, 0, none⟩ = some (.int .i64 e) := kept1 k15 hb3
  have k26 : W3.cell? ⟨w.heap.size + 1, 1, none⟩ = some (.int .i64 f) := kept1 k16 hb3
  have k27 : W3.cell? ⟨w.heap.size + 1, 2, none⟩ = some (.int .i64 g) := kept1 k17 hb3
  have k28 : W3.cell? ⟨w.heap.size + 1, 3, none⟩ = some (.int .i64 h) := kept1 k18 hb3
  have k29 : W3.cell? ⟨w.heap.size + 1 + 1, 0, none⟩ = some (.int .i64 i) := kept1 k19 hb3
  have k30 : W3.cell? ⟨w.heap.size + 1 + 1, 1, none⟩ = some (.int .i64 j) := kept1 k20 hb3
  have lk21 : w.heap.size < W3.heap.size := block_lt_of_cell k21
  have lk25 : w.heap.size + 1 < W3.heap.size := block_lt_of_cell k25
  have lk29 : w.heap.size + 1 + 1 < W3.heap.size := block_lt_of_cell k29
  have hv3 : Below w.heap.size w W3 := bstep0 hv2 hb3
  clear hb3 hv2 k11 k12 k13 k14 k15 k16 k17 k18 k19 k20 lk11 lk15 lk19
  go_wp2_with fail
  refine (H1.out _).mono ?_
  rintro e W4 ⟨rfl, hb4⟩
  have k31 : W4.cell? ⟨w.heap.size, 0, none⟩ = some (.int .i64 a) := kept_a1 k21 hb4
  have k32 : W4.cell? ⟨w.heap.size, 1, none⟩ = some (.int .i64 b) := kept_a1 k22 hb4
  have k33 : W4.cell? ⟨w.heap.size, 2, none⟩ = some (.int .i64 c) := kept_a1 k23 hb4
  have k34 : W4.cell? ⟨w.heap.size, 3, none⟩ = some (.int .i64 d) := kept_a1 k24 hb4
  have k35 : W4.cell? ⟨w.heap.size + 1, 0, none⟩ = some (.int .i64 e) := kept_a1 k25 hb4
  have k36 : W4.cell? ⟨w.heap.size + 1, 1, none⟩ = some (.int .i64 f) := kept_a1 k26 hb4
  have k37 : W4.cell? ⟨w.heap.size + 1, 2, none⟩ = some (.int .i64 g) := kept_a1 k27 hb4
  have k38 : W4.cell? ⟨w.heap.size + 1, 3, none⟩ = some (.int .i64 h) := kept_a1 k28 hb4
  have k39 : W4.cell? ⟨w.heap.size + 1 + 1, 0, none⟩ = some (.int .i64 i) := kept_a1 k29 hb4
  have k40 : W4.cell? ⟨w.heap.size + 1 + 1, 1, none⟩ = some (.int .i64 j) := kept_a1 k30 hb4
  have k41 : W4.cell? ⟨W3.heap.size, 0, none⟩ = some (.int .i64 p) := kept1 (by simp [go_sem]) hb4
  have k42 : W4.cell? ⟨W3.heap.size, 1, none⟩ = some (.int .i64 q) := kept1 (by simp [go_sem]) hb4
  have lk31 : w.heap.size < W4.heap.size := block_lt_of_cell k31
  have lk35 : w.heap.size + 1 < W4.heap.size := block_lt_of_cell k35
  have lk39 : w.heap.size + 1 + 1 < W4.heap.size := block_lt_of_cell k39
  have lk41 : W3.heap.size < W4.heap.size := block_lt_of_cell k41
  have hv4 : Below w.heap.size w W4 := bstep1 hv3 hb4
  clear hb4 hv3 k21 k22 k23 k24 k25 k26 k27 k28 k29 k30 lk21 lk25 lk29
  go_wp2_with fail
  refine (H2.out _).mono ?_
  rintro e W5 ⟨rfl, hb5⟩
  have k43 : W5.cell? ⟨w.heap.size, 0, none⟩ = some (.int .i64 a) := kept1 k31 hb5
  have k44 : W5.cell? ⟨w.heap.size, 1, none⟩ = some (.int .i64 b) := kept1 k32 hb5
  have k45 : W5.cell? ⟨w.heap.size, 2, none⟩ = some (.int .i64 c) := kept1 k33 hb5
  have k46 : W5.cell? ⟨w.heap.size, 3, none⟩ = some (.int .i64 d) := kept1 k34 hb5
  have k47 : W5.cell? ⟨w.heap.size + 1, 0, none⟩ = some (.int .i64 e) := kept1 k35 hb5
  have k48 : W5.cell? ⟨w.heap.size + 1, 1, none⟩ = some (.int .i64 f) := kept1 k36 hb5
  have k49 : W5.cell? ⟨w.heap.size + 1, 2, none⟩ = some (.int .i64 g) := kept1 k37 hb5
  have k50 : W5.cell? ⟨w.heap.size + 1, 3, none⟩ = some (.int .i64 h) := kept1 k38 hb5
  have k51 : W5.cell? ⟨w.heap.size + 1 + 1, 0, none⟩ = some (.int .i64 i) := kept1 k39 hb5
  have k52 : W5.cell? ⟨w.heap.size + 1 + 1, 1, none⟩ = some (.int .i64 j) := kept1 k40 hb5
  have k53 : W5.cell? ⟨W3.heap.size, 0, none⟩ = some (.int .i64 p) := kept1 k41 hb5
  have k54 : W5.cell? ⟨W3.heap.size, 1, none⟩ = some (.int .i64 q) := kept1 k42 hb5
  have lk43 : w.heap.size < W5.heap.size := block_lt_of_cell k43
  have lk47 : w.heap.size + 1 < W5.heap.size := block_lt_of_cell k47
  have lk51 : w.heap.size + 1 + 1 < W5.heap.size := block_lt_of_cell k51
  have lk53 : W3.heap.size < W5.heap.size := block_lt_of_cell k53
  have hv5 : Below w.heap.size w W5 := bstep0 hv4 hb5
  clear hb5 hv4 k31 k32 k33 k34 k35 k36 k37 k38 k39 k40 k41 k42 lk31 lk35 lk39 lk41
  go_wp2_with fail
  refine (rvrange_yes e f g h _ hy.out).mono ?_
  rintro e W6 ⟨rfl, hb6⟩
  have k55 : W6.cell? ⟨w.heap.size, 0, none⟩ = some (.int .i64 a) := kept1 k43 hb6
  have k56 : W6.cell? ⟨w.heap.size, 1, none⟩ = some (.int .i64 b) := kept1 k44 hb6
  have k57 : W6.cell? ⟨w.heap.size, 2, none⟩ = some (.int .i64 c) := kept1 k45 hb6
  have k58 : W6.cell? ⟨w.heap.size, 3, none⟩ = some (.int .i64 d) := kept1 k46 hb6
  have k59 : W6.cell? ⟨w.heap.size + 1, 0, none⟩ = some (.int .i64 e) := kept1 k47 hb6
  have k60 : W6.cell? ⟨w.heap.size + 1, 1, none⟩ = some (.int .i64 f) := kept1 k48 hb6
  have k61 : W6.cell? ⟨w.heap.size + 1, 2, none⟩ = some (.int .i64 g) := kept1 k49 hb6
  have k62 : W6.cell? ⟨w.heap.size + 1, 3, none⟩ = some (.int .i64 h) := kept1 k50 hb6
  have k63 : W6.cell? ⟨w.heap.size + 1 + 1, 0, none⟩ = some (.int .i64 i) := kept1 k51 hb6
  have k64 : W6.cell? ⟨w.heap.size + 1 + 1, 1, none⟩ = some (.int .i64 j) := kept1 k52 hb6
  have k65 : W6.cell? ⟨W3.heap.size, 0, none⟩ = some (.int .i64 p) := kept1 k53 hb6
  have k66 : W6.cell? ⟨W3.heap.size, 1, none⟩ = some (.int .i64 q) := kept1 k54 hb6
  have lk55 : w.heap.size < W6.heap.size := block_lt_of_cell k55
  have lk59 : w.heap.size + 1 < W6.heap.size := block_lt_of_cell k59
  have lk63 : w.heap.size + 1 + 1 < W6.heap.size := block_lt_of_cell k63
  have lk65 : W3.heap.size < W6.heap.size := block_lt_of_cell k65
  have hv6 : Below w.heap.size w W6 := bstep0 hv5 hb6
  clear hb6 hv5 k43 k44 k45 k46 k47 k48 k49 k50 k51 k52 k53 k54 lk43 lk47 lk51 lk53
  go_wp2_with fail
  refine (H3.out _).mono ?_
  rintro e W7 ⟨rfl, hb7⟩
  have k67 : W7.cell? ⟨w.heap.size, 0, none⟩ = some (.int .i64 a) := kept1 k55 hb7
  have k68 : W7.cell? ⟨w.heap.size, 1, none⟩ = some (.int .i64 b) := kept1 k56 hb7
  have k69 : W7.cell? ⟨w.heap.size, 2, none⟩ = some (.int .i64 c) := kept1 k57 hb7
  have k70 : W7.cell? ⟨w.heap.size, 3, none⟩ = some (.int .i64 d) := kept1 k58 hb7
  have k71 : W7.cell? ⟨w.heap.size + 1, 0, none⟩ = some (.int .i64 e) := kept1 k59 hb7
  have k72 : W7.cell? ⟨w.heap.size + 1, 1, none⟩ = some (.int .i64 f) := kept1 k60 hb7
  have k73 : W7.cell? ⟨w.heap.size + 1, 2, none⟩ = some (.int .i64 g) := kept1 k61 hb7
  have k74 : W7.cell? ⟨w.heap.size + 1, 3, none⟩ = some (.int .i64 h) := kept1 k62 hb7
  have k75 : W7.cell? ⟨w.heap.size + 1 + 1, 0, none⟩ = some (.int .i64 i) := kept1 k63 hb7
  have k76 : W7.cell? ⟨w.heap.size + 1 + 1, 1, none⟩ = some (.int .i64 j) := kept1 k64 hb7
  have k77 : W7.cell? ⟨W3.heap.size, 0, none⟩ = some (.int .i64 p) := kept1 k65 hb7
  have k78 : W7.cell? ⟨W3.heap.size, 1, none⟩ = some (.int .i64 q) := kept1 k66 hb7
  have lk67 : w.heap.size < W7.heap.size := block_lt_of_cell k67
  have lk71 : w.heap.size + 1 < W7.heap.size := block_lt_of_cell k71
  have lk75 : w.heap.size + 1 + 1 < W7.heap.size := block_lt_of_cell k75
  have lk77 : W3.heap.size < W7.heap.size := block_lt_of_cell k77
  have hv7 : Below w.heap.size w W7 := bstep0 hv6 hb7
  clear hb7 hv6 k55 k56 k57 k58 k59 k60 k61 k62 k63 k64 k65 k66 lk55 lk59 lk63 lk65
  go_wp2_with fail
  refine (H4.out _).mono ?_
  rintro e W8 ⟨rfl, hb8⟩
  have k79 : W8.cell? ⟨w.heap.size, 0, none⟩ = some (.int .i64 a) := kept1 k67 hb8
  have k80 : W8.cell? ⟨w.heap.size, 1, none⟩ = some (.int .i64 b) := kept1 k68 hb8
  have k81 : W8.cell? ⟨w.heap.size, 2, none⟩ = some (.int .i64 c) := kept1 k69 hb8
  have k82 : W8.cell? ⟨w.heap.size, 3, none⟩ = some (.int .i64 d) := kept1 k70 hb8
  have k83 : W8.cell? ⟨w.heap.size + 1, 0, none⟩ = some (.int .i64 e) := kept1 k71 hb8
  have k84 : W8.cell? ⟨w.heap.size + 1, 1, none⟩ = some (.int .i64 f) := kept1 k72 hb8
  have k85 : W8.cell? ⟨w.heap.size + 1, 2, none⟩ = some (.int .i64 g) := kept1 k73 hb8
  have k86 : W8.cell? ⟨w.heap.size + 1, 3, none⟩ = some (.int .i64 h) := kept1 k74 hb8
  have k87 : W8.cell? ⟨w.heap.size + 1 + 1, 0, none⟩ = some (.int .i64 i) := kept1 k75 hb8
  have k88 : W8.cell? ⟨w.heap.size + 1 + 1, 1, none⟩ = some (.int .i64 j) := kept1 k76 hb8
  have k89 : W8.cell? ⟨W3.heap.size, 0, none⟩ = some (.int .i64 p) := kept1 k77 hb8
  have k90 : W8.cell? ⟨W3.heap.size, 1, none⟩ = some (.int .i64 q) := kept1 k78 hb8
  have lk79 : w.heap.size < W8.heap.size := block_lt_of_cell k79
  have lk83 : w.heap.size + 1 < W8.heap.size := block_lt_of_cell k83
  have lk87 : w.heap.size + 1 + 1 < W8.heap.size := block_lt_of_cell k87
  have lk89 : W3.heap.size < W8.heap.size := block_lt_of_cell k89
  have hv8 : Below w.heap.size w W8 := bstep0 hv7 hb8
  clear hb8 hv7 k67 k68 k69 k70 k71 k72 k73 k74 k75 k76 k77 k78 lk67 lk71 lk75 lk77
  go_wp2_with fail
  refine (HR.out _).mono ?_
  rintro e W9 ⟨rfl, hb9⟩
  have k91 : W9.cell? ⟨w.heap.size, 0, none⟩ = some (.int .i64 a) := kept1 k79 hb9
  have k92 : W9.cell? ⟨w.heap.size, 1, none⟩ = some (.int .i64 b) := kept1 k80 hb9
  have k93 : W9.cell? ⟨w.heap.size, 2, none⟩ = some (.int .i64 c) := kept1 k81 hb9
  have k94 : W9.cell? ⟨w.heap.size, 3, none⟩ = some (.int .i64 d) := kept1 k82 hb9
  have k95 : W9.cell? ⟨w.heap.size + 1, 0, none⟩ = some (.int .i64 e) := kept1 k83 hb9
  have k96 : W9.cell? ⟨w.heap.size + 1, 1, none⟩ = some (.int .i64 f) := kept1 k84 hb9
  have k97 : W9.cell? ⟨w.heap.size + 1, 2, none⟩ = some (.int .i64 g) := kept1 k85 hb9
  have k98 : W9.cell? ⟨w.heap.size + 1, 3, none⟩ = some (.int .i64 h) := kept1 k86 hb9
  have k99 : W9.cell? ⟨w.heap.size + 1 + 1, 0, none⟩ = some (.int .i64 i) := kept1 k87 hb9
  have k100 : W9.cell? ⟨w.heap.size + 1 + 1, 1, none⟩ = some (.int .i64 j) := kept1 k88 hb9
  have k101 : W9.cell? ⟨W3.heap.size, 0, none⟩ = some (.int .i64 p) := kept1 k89 hb9
  have k102 : W9.cell? ⟨W3.heap.size, 1, none⟩ = some (.int .i64 q) := kept1 k90 hb9
  have lk91 : w.heap.size < W9.heap.size := block_lt_of_cell k91
  have lk95 : w.heap.size + 1 < W9.heap.size := block_lt_of_cell k95
  have lk99 : w.heap.size + 1 + 1 < W9.heap.size := block_lt_of_cell k99
  have lk101 : W3.heap.size < W9.heap.size := block_lt_of_cell k101
  have hv9 : Below w.heap.size w W9 := bstep0 hv8 hb9
  clear hb9 hv8 k79 k80 k81 k82 k83 k84 k85 k86 k87 k88 k89 k90 lk79 lk83 lk87 lk89
  go_wp2_with fail
  refine (H5.out _).mono ?_
  rintro e W10 ⟨rfl, hb10⟩
  have k103 : W10.cell? ⟨w.heap.size, 0, none⟩ = some (.int .i64 a) := kept_a1 k91 hb10
  have k104 : W10.cell? ⟨w.heap.size, 1, none⟩ = some (.int .i64 b) := kept_a1 k92 hb10
  have k105 : W10.cell? ⟨w.heap.size, 2, none⟩ = some (.int .i64 c) := kept_a1 k93 hb10
  have k106 : W10.cell? ⟨w.heap.size, 3, none⟩ = some (.int .i64 d) := kept_a1 k94 hb10
  have k107 : W10.cell? ⟨w.heap.size + 1, 0, none⟩ = some (.int .i64 e) := kept_a1 k95 hb10
  have k108 : W10.cell? ⟨w.heap.size + 1, 1, none⟩ = some (.int .i64 f) := kept_a1 k96 hb10
  have k109 : W10.cell? ⟨w.heap.size + 1, 2, none⟩ = some (.int .i64 g) := kept_a1 k97 hb10
  have k110 : W10.cell? ⟨w.heap.size + 1, 3, none⟩ = some (.int .i64 h) := kept_a1 k98 hb10
  have k111 : W10.cell? ⟨w.heap.size + 1 + 1, 0, none⟩ = some (.int .i64 i) := kept_a1 k99 hb10
  have k112 : W10.cell? ⟨w.heap.size + 1 + 1, 1, none⟩ = some (.int .i64 j) := kept_a1 k100 hb10
  have k113 : W10.cell? ⟨W3.heap.size, 0, none⟩ = some (.int .i64 p) := kept_a1 k101 hb10
  have k114 : W10.cell? ⟨W3.heap.size, 1, none⟩ = some (.int .i64 q) := kept_a1 k102 hb10
  have k115 : W10.cell? ⟨W9.heap.size, 0, none⟩ = some (.int .i64 u) := kept1 (by simp [go_sem]) hb10
  have k116 : W10.cell? ⟨W9.heap.size, 1, none⟩ = some (.int .i64 v) := kept1 (by simp [go_sem]) hb10
  have lk103 : w.heap.size < W10.heap.size := block_lt_of_cell k103
  have lk107 : w.heap.size + 1 < W10.heap.size := block_lt_of_cell k107
  have lk111 : w.heap.size + 1 + 1 < W10.heap.size := block_lt_of_cell k111
  have lk113 : W3.heap.size < W10.heap.size := block_lt_of_cell k113
  have lk115 : W9.heap.size < W10.heap.size := block_lt_of_cell k115
  have hv10 : Below w.heap.size w W10 := bstep1 hv9 hb10
  clear hb10 hv9 k91 k92 k93 k94 k95 k96 k97 k98 k99 k100 k101 k102 lk91 lk95 lk99 lk101
  go_wp2_with fail
  refine (sanity_tab hT _ hv10).mono ?_
  rintro e W11 ⟨rfl, hb11⟩
  have k117 : W11.cell? ⟨w.heap.size, 0, none⟩ = some (.int .i64 a) := kept1 k103 hb11
  have k118 : W11.cell? ⟨w.heap.size, 1, none⟩ = some (.int .i64 b) := kept1 k104 hb11
  have k119 : W11.cell? ⟨w.heap.size, 2, none⟩ = some (.int .i64 c) := kept1 k105 hb11
  have k120 : W11.cell? ⟨w.heap.size, 3, none⟩ = some (.int .i64 d) := kept1 k106 hb11
  have k121 : W11.cell? ⟨w.heap.size + 1, 0, none⟩ = some (.int .i64 e) := kept1 k107 hb11
  have k122 : W11.cell? ⟨w.heap.size + 1, 1, none⟩ = some (.int .i64 f) := kept1 k108 hb11
  have k123 : W11.cell? ⟨w.heap.size + 1, 2, none⟩ = some (.int .i64 g) := kept1 k109 hb11
  have k124 : W11.cell? ⟨w.heap.size + 1, 3, none⟩ = some (.int .i64 h) := kept1 k110 hb11
  have k125 : W11.cell? ⟨w.heap.size + 1 + 1, 0, none⟩ = some (.int .i64 i) := kept1 k111 hb11
  have k126 : W11.cell? ⟨w.heap.size + 1 + 1, 1, none⟩ = some (.int .i64 j) := kept1 k112 hb11
  have k127 : W11.cell? ⟨W3.heap.size, 0, none⟩ = some (.int .i64 p) := kept1 k113 hb11
  have k128 : W11.cell? ⟨W3.heap.size, 1, none⟩ = some (.int .i64 q) := kept1 k114 hb11
  have k129 : W11.cell? ⟨W9.heap.size, 0, none⟩ = some (.int .i64 u) := kept1 k115 hb11
  have k130 : W11.cell? ⟨W9.heap.size, 1, none⟩ = some (.int .i64 v) := kept1 k116 hb11
  have lk117 : w.heap.size < W11.heap.size := block_lt_of_cell k117
  have lk121 : w.heap.size + 1 < W11.heap.size := block_lt_of_cell k121
  have lk125 : w.heap.size + 1 + 1 < W11.heap.size := block_lt_of_cell k125
  have lk127 : W3.heap.size < W11.heap.size := block_lt_of_cell k127
  have lk129 : W9.heap.size < W11.heap.size := block_lt_of_cell k129
  have hv11 : Below w.heap.size w W11 := bstep0 hv10 hb11
  clear hb11 hv10 k103 k104 k105 k106 k107 k108 k109 k110 k111 k112 k113 k114 k115 k116 lk103 lk107 lk111 lk113 lk115
  go_wp2
  go_ret
  exact ⟨by first | rfl | simp, (by repeat (first | with_reducible exact Below.refl _ _ | with_reducible assumption | refine below_drewN ?_ _ | refine Below.drew ?_ | refine Below.alloc ?_ (by first | (simp; done) | (simp; omega) | omega) _ | refine Below.setCell ?_ (by first | (simp; done) | (simp; omega) | omega) _ | refine Below.trans ?_ (Below.mono (by assumption) (by first | (simp; done) | (simp; omega) | omega))))⟩

set_option maxRecDepth 100000 in
set_option maxHeartbeats 2000000 in
theorem least_F3T (a b c d e f g h i j : Int) (p q : Int) (hx : Hid (vrP a b c d)) (ha : Hid (Rt.vldP i j)) (HS : Hid (∀ W : World, Calls Tryd.prog 49 #[.agg #[.int .i64 a, .int .i64 b, .int .i64 c, .int .i64 d]] W fun e w' => e = .returned (.tuple #[.agg #[.int .i64 p, .int .i64 q], .int .i64 0]) ∧ Below W.heap.size W w')) (H1 : Hid (∀ W : World, Calls Tryd.prog 55 #[.agg #[.int .i64 a, .int .i64 b, .int .i64 c, .int .i64 d], .agg #[.int .i64 p, .int .i64 q]] W fun e w' => e = .returned (.bool true) ∧ Below W.heap.size W w')) (H2 : Hid (∀ W : World, Calls Tryd.prog 55 #[.agg #[.int .i64 a, .int .i64 b, .int .i64 c, .int .i64 d], .agg #[.int .i64 i, .int .i64 j]] W fun e w' => e = .returned (.bool false) ∧ Below W.heap.size W w')) (hy : Hid (vrP e f g h)) (H3 : Hid (∀ W : World, Calls Tryd.prog 55 #[.agg #[.int .i64 a, .int .i64 b, .int .i64 c, .int .i64 d], .agg #[.int .i64 e, .int .i64 f]] W fun e w' => e = .returned (.bool true) ∧ Below W.heap.size W w')) (H4 : Hid (∀ W : World, Calls Tryd.prog 55 #[.agg #[.int .i64 a, .int .i64 b, .int .i64 c, .int .i64 d], .agg #[.int .i64 g, .int .i64 h]] W fun e w' => e = .returned (.bool true) ∧ Below W.heap.size W w')) (HR : Hid (∀ W : World, Calls Tryd.prog 49 #[.agg #[.int .i64 e, .int .i64 f, .int .i64 g, .int .i64 h]] W fun e w' => e = .returned (.tuple #[.agg #[.int .i64 p, .int .i64 q], .int .i64 0]) ∧ Below W.heap.size W w')) (H5 : Hid (∀ W : World, Calls Tryd.prog 55 #[.agg #[.int .i64 e, .int .i64 f, .int .i64 g, .int .i64 h], .agg #[.int .i64 p, .int .i64 q]] W fun e w' => e = .returned (.bool true) ∧ Below W.heap.size W w')) (w : World) (hT : Hid (Tab w.heap.size w)) :
    Calls Tryd.prog 14 #[.agg #[.int .i64 a, .int .i64 b, .int .i64 c, .int .i64 d], .agg #[.int .i64 e, .int .i64 f, .int .i64 g, .int .i64 h], .agg #[.int .i64 i, .int .i64 j]] w fun e w' => e = .returned (.bool true) ∧ Below w.heap.size w w' := by
  go_enter Tryd.func14, Tryd.ntmps14
  go_wp2_with fail
  refine (rvrange_yes a b c d _ hx.out).mono ?_
  rintro e W1 ⟨rfl, hb1⟩
  have k1 : W1.cell? ⟨w.heap.size, 0, none⟩ = some (.int .i64 a) := kept1 (by simp [go_sem]) hb1
  have k2 : W1.cell? ⟨w.heap.size, 1, none⟩ = some (.int .i64 b) := kept1 (by simp [go_sem]) hb1
  have k3 : W1.cell? ⟨w.heap.size, 2, none⟩ = some (.int .i64 c) := kept1 (by simp [go_sem]) hb1
  have k4 : W1.cell? ⟨w.heap.size, 3, none⟩ = some (.int .i64 d) := kept1 (by simp [go_sem]) hb1
  have k5 : W1.cell? ⟨w.heap.size + 1, 0, none⟩ = some (.int .i64 e) := kept1 (by simp [go_sem]) hb1
  have k6 : W1.cell? ⟨w.heap.size + 1, 1, none⟩ = some (.int .i64 f) := kept1 (by simp [go_sem]) hb1
  have k7 : W1.cell? ⟨w.heap.size + 1, 2, none⟩ = some (.int .i64 g) := kept1 (by simp [go_sem]) hb1
  have k8 : W1.cell? ⟨w.heap.size + 1, 3, none⟩ = some (.int .i64 h) := kept1 (by simp [go_sem]) hb1
  have k9 : W1.cell? ⟨w.heap.size + 1 + 1, 0, none⟩ = some (.int .i64 i) := kept1 (by simp [go_sem]) hb1
  have k10 : W1.cell? ⟨w.heap.size + 1 + 1, 1, none⟩ = some (.int .i64 j) := kept1 (by simp [go_sem]) hb1
  have lk1 : w.heap.size < W1.heap.size := block_lt_of_cell k1
  have lk5 : w.heap.size + 1 < W1.heap.size := block_lt_of_cell k5
  have lk9 : w.heap.size + 1 + 1 < W1.heap.size := block_lt_of_cell k9
  have hv1 : Below w.heap.size w W1 := bstep3 (Below.refl _ _) hb1
  clear hb1  
  go_wp2_with fail
  refine (rvalid_yes i j _ ha.out).mono ?_
  rintro e W2 ⟨rfl, hb2⟩
  have k11 : W2.cell? ⟨w.heap.size, 0, none⟩ = some (.int .i64 a) := kept1 k1 hb2
  have k12 : W2.cell? ⟨w.heap.size, 1, none⟩ = some (.int .i64 b) := kept1 k2 hb2
  have k13 : W2.cell? ⟨w.heap.size, 2, none⟩ = some (.int .i64 c) := kept1 k3 hb2
  have k14 : W2.cell? ⟨w.heap.size, 3, none⟩ = some (.int .i64 d) := kept1 k4 hb2
  have k15 : W2.cell? ⟨w.heap.size + 1, 0, none⟩ = some (.int .i64 e) := kept1 k5 hb2
  have k16 : W2.cell? ⟨w.heap.size + 1, 1, none⟩ = some (.int .i64 f) := kept1 k6 hb2
  have k17 : W2.cell? ⟨w.heap.size + 1, 2, none⟩ = some (.int .i64 g) := kept1 k7 hb2
  have k18 : W2.cell? ⟨w.heap.size + 1, 3, none⟩ = some (.int .i64 h) := kept1 k8 hb2
  have k19 : W2.cell? ⟨w.heap.size + 1 + 1, 0, none⟩ = some (.int .i64 i) := kept1 k9 hb2
  have k20 : W2.cell? ⟨w.heap.size + 1 + 1, 1, none⟩ = some (.int .i64 j) := kept1 k10 hb2
  have lk11 : w.heap.size < W2.heap.size := block_lt_of_cell k11
  have lk15 : w.heap.size + 1 < W2.heap.size := block_lt_of_cell k15
  have lk19 : w.heap.size + 1 + 1 < W2.heap.size := block_lt_of_cell k19
  have hv2 : Below w.heap.size w W2 := bstep0 hv1 hb2
  clear hb2 hv1 k1 k2 k3 k4 k5 k6 k7 k8 k9 k10 lk1 lk5 lk9
  go_wp2_with fail
  refine (HS.out _).mono ?_
  rintro e W3 ⟨rfl, hb3⟩
  have k21 : W3.cell? ⟨w.heap.size, 0, none⟩ = some (.int .i64 a) := kept1 k11 hb3
  have k22 : W3.cell? ⟨w.heap.size, 1, none⟩ = some (.int .i64 b) := kept1 k12 hb3
  have k23 : W3.cell? ⟨w.heap.size, 2, none⟩ = some (.int .i64 c) := kept1 k13 hb3
  have k24 : W3.cell? ⟨w.heap.size, 3, none⟩ = some (.int .i64 d) := kept1 k14 hb3
  have k25 : W3.cell? ⟨w.heap.size + 1, 0, none⟩ = some (.int .i64 e) := kept1 k15 hb3
  have k26 : W3.cell? ⟨w.heap.size + 1, 1, none⟩ = some (.int .i64 f) := kept1 k16 hb3
  have k27 : W3.cell? ⟨w.heap.size + 1, 2, none⟩ = some (.int .i64 g) := kept1 k17 hb3
  have k28 : W3.cell? ⟨w.heap.size + 1, 3, none⟩ = some (.int .i64 h) := kept1 k18 hb3
  have k29 : W3.cell? ⟨w.heap.size + 1 + 1, 0, none⟩ = some (.int .i64 i) := kept1 k19 hb3
  have k30 : W3.cell? ⟨w.heap.size + 1 + 1, 1, none⟩ = some (.int .i64 j) := kept1 k20 hb3
  have lk21 : w.heap.size < W3.heap.size := block_lt_of_cell k21
  have lk25 : w.heap.size + 1 < W3.heap.size := block_lt_of_cell k25
  have lk29 : w.heap.size + 1 + 1 < W3.heap.size := block_lt_of_cell k29
  have hv3 : Below w.heap.size w W3 := bstep0 hv2 hb3
  clear hb3 hv2 k11 k12 k13 k14 k15 k16 k17 k18 k19 k20 lk11 lk15 lk19
  go_wp2_with fail
  refine (H1.out _).mono ?_
  rintro e W4 ⟨rfl, hb4⟩
  have k31 : W4.cell? ⟨w.heap.size, 0, none⟩ = some (.int .i64 a) := kept_a1 k21 hb4
  have k32 : W4.cell? ⟨w.heap.size, 1, none⟩ = some (.int .i64 b) := kept_a1 k22 hb4
  have k33 : W4.cell? ⟨w.heap.size, 2, none⟩ = some (.int .i64 c) := kept_a1 k23 hb4
  have k34 : W4.cell? ⟨w.heap.size, 3, none⟩ = some (.int .i64 d) := kept_a1 k24 hb4
  have k35 : W4.cell? ⟨w.heap.size + 1, 0, none⟩ = some (.int .i64 e) := kept_a1 k25 hb4
  have k36 : W4.cell? ⟨w.heap.size + 1, 1, none⟩ = some (.int .i64 f) := kept_a1 k26 hb4
  have k37 : W4.cell? ⟨w.heap.size + 1, 2, none⟩ = some (.int .i64 g) := kept_a1 k27 hb4
  have k38 : W4.cell? ⟨w.heap.size + 1, 3, none⟩ = some (.int .i64 h) := kept_a1 k28 hb4
  have k39 : W4.cell? ⟨w.heap.size + 1 + 1, 0, none⟩ = some (.int .i64 i) := kept_a1 k29 hb4
  have k40 : W4.cell? ⟨w.heap.size + 1 + 1, 1, none⟩ = some (.int .i64 j) := kept_a1 k30 hb4
  have k41 : W4.cell? ⟨W3.heap.size, 0, none⟩ = some (.int .i64 p) := kept1 (by simp [go_sem]) hb4
  have k42 : W4.cell? ⟨W3.heap.size, 1, none⟩ = some (.int .i64 q) := kept1 (by simp [go_sem]) hb4
  have lk31 : w.heap.size < W4.heap.size := block_lt_of_cell k31
  have lk35 : w.heap.size + 1 < W4.heap.size := block_lt_of_cell k35
  have lk39 : w.heap.size + 1 + 1 < W4.heap.size := block_lt_of_cell k39
  have lk41 : W3.heap.size < W4.heap.size := block_lt_of_cell k41
  have hv4 : Below w.heap.size w W4 := bstep1 hv3 hb4
  clear hb4 hv3 k21 k22 k23 k24 k25 k26 k27 k28 k29 k30 lk21 lk25 lk29
  go_wp2_with fail
  refine (H2.out _).mono ?_
  rintro e W5 ⟨rfl, hb5⟩
  have k43 : W5.cell? ⟨w.heap.size, 0, none⟩ = some (.int .i64 a) := kept1 k31 hb5
  have k44 : W5.cell? ⟨w.heap.size, 1, none⟩ = some (.int .i64 b) := kept1 k32 hb5
  have k45 : W5.cell? ⟨w.heap.size, 2, none⟩ = some (.int .i64 c) := kept1 k33 hb5
  have k46 : W5.cell? ⟨w.heap.size, 3, none⟩ = some (.int .i64 d) := kept1 k34 hb5
  have k47 : W5.cell? ⟨w.heap.size + 1, 0, none⟩ = some (.int .i64 e) := kept1 k35 hb5
  have k48 : W5.cell? ⟨w.heap.size + 1, 1, none⟩ = some (.int .i64 f) := kept1 k36 hb5
  have k49 : W5.cell? ⟨w.heap.size + 1, 2, none⟩ = some (.int .i64 g) := kept1 k37 hb5
  have k50 : W5.cell? ⟨w.heap.size + 1, 3, none⟩ = some (.int .i64 h) := kept1 k38 hb5
  have k51 : W5.cell? ⟨w.heap.size + 1 + 1, 0, none⟩ = some (.int .i64 i) := kept1 k39 hb5
  have k52 : W5.cell? ⟨w.heap.size + 1 + 1, 1, none⟩ = some (.int .i64 j) := kept1 k40 hb5
  have k53 : W5.cell? ⟨W3.heap.size, 0, none⟩ = some (.int .i64 p) := kept1 k41 hb5
  have k54 : W5.cell? ⟨W3.heap.size, 1, none⟩ = some (.int .i64 q) := kept1 k42 hb5
  have lk43 : w.heap.size < W5.heap.size := block_lt_of_cell k43
  have lk47 : w.heap.size + 1 < W5.heap.size := block_lt_of_cell k47
  have lk51 : w.heap.size + 1 + 1 < W5.heap.size := block_lt_of_cell k51
  have lk53 : W3.heap.size < W5.heap.size := block_lt_of_cell k53
  have hv5 : Below w.heap.size w W5 := bstep0 hv4 hb5
  clear hb5 hv4 k31 k32 k33 k34 k35 k36 k37 k38 k39 k40 k41 k42 lk31 lk35 lk39 lk41
  go_wp2_with fail
  refine (rvrange_yes e f g h _ hy.out).mono ?_
  rintro e W6 ⟨rfl, hb6⟩
  have k55 : W6.cell? ⟨w.heap.size, 0, none⟩ = some (.int .i64 a) := kept1 k43 hb6
  have k56 : W6.cell? ⟨w.heap.size, 1, none⟩ = some (.int .i64 b) := kept1 k44 hb6
  have k57 : W6.cell? ⟨w.heap.size, 2, none⟩ = some (.int .i64 c) := kept1 k45 hb6
  have k58 : W6.cell? ⟨w.heap.size, 3, none⟩ = some (.int .i64 d) := kept1 k46 hb6
  have k59 : W6.cell? ⟨w.heap.size + 1, 0, none⟩ = some (.int .i64 e) := kept1 k47 hb6
  have k60 : W6.cell? ⟨w.heap.size + 1, 1, none⟩ = some (.int .i64 f) := kept1 k48 hb6
  have k61 : W6.cell? ⟨w.heap.size + 1, 2, none⟩ = some (.int .i64 g) := kept1 k49 hb6
  have k62 : W6.cell? ⟨w.heap.size + 1, 3, none⟩ = some (.int .i64 h) := kept1 k50 hb6
  have k63 : W6.cell? ⟨w.heap.size + 1 + 1, 0, none⟩ = some (.int .i64 i) := kept1 k51 hb6
  have k64 : W6.cell? ⟨w.heap.size + 1 + 1, 1, none⟩ = some (.int .i64 j) := kept1 k52 hb6
  have k65 : W6.cell? ⟨W3.heap.size, 0, none⟩ = some (.int .i64 p) := kept1 k53 hb6
  have k66 : W6.cell? ⟨W3.heap.size, 1, none⟩ = some (.int .i64 q) := kept1 k54 hb6
  have lk55 : w.heap.size < W6.heap.size := block_lt_of_cell k55
  have lk59 : w.heap.size + 1 < W6.heap.size := block_lt_of_cell k59
  have lk63 : w.heap.size + 1 + 1 < W6.heap.size := block_lt_of_cell k63
  have lk65 : W3.heap.size < W6.heap.size := block_lt_of_cell k65
  have hv6 : Below w.heap.size w W6 := bstep0 hv5 hb6
  clear hb6 hv5 k43 k44 k45 k46 k47 k48 k49 k50 k51 k52 k53 k54 lk43 lk47 lk51 lk53
  go_wp2_with fail
  refine (H3.out _).mono ?_
  rintro e W7 ⟨rfl, hb7⟩
  have k67 : W7.cell? ⟨w.heap.size, 0, none⟩ = some (.int .i64 a) := kept1 k55 hb7
  have k68 : W7.cell? ⟨w.heap.size, 1, none⟩ = some (.int .i64 b) := kept1 k56 hb7
  have k69 : W7.cell? ⟨w.heap.size, 2, none⟩ = some (.int .i64 c) := kept1 k57 hb7
  have k70 : W7.cell? ⟨w.heap.size, 3, none⟩ = some (.int .i64 d) := kept1 k58 hb7
  have k71 : W7.cell? ⟨w.heap.size + 1, 0, none⟩ = some (.int .i64 e) := kept1 k59 hb7
  have k72 : W7.cell? ⟨w.heap.size + 1, 1, none⟩ = some (.int .i64 f) := kept1 k60 hb7
  have k73 : W7.cell? ⟨w.heap.size + 1, 2, none⟩ = some (.int .i64 g) := kept1 k61 hb7
  have k74 : W7.cell? ⟨w.heap.size + 1, 3, none⟩ = some (.int .i64 h) := kept1 k62 hb7
  have k75 : W7.cell? ⟨w.heap.size + 1 + 1, 0, none⟩ = some (.int .i64 i) := kept1 k63 hb7
  have k76 : W7.cell? ⟨w.heap.size + 1 + 1, 1, none⟩ = some (.int .i64 j) := kept1 k64 hb7
  have k77 : W7.cell? ⟨W3.heap.size, 0, none⟩ = some (.int .i64 p) := kept1 k65 hb7
  have k78 : W7.cell? ⟨W3.heap.size, 1, none⟩ = some (.int .i64 q) := kept1 k66 hb7
  have lk67 : w.heap.size < W7.heap.size := block_lt_of_cell k67
  have lk71 : w.heap.size + 1 < W7.heap.size := block_lt_of_cell k71
  have lk75 : w.heap.size + 1 + 1 < W7.heap.size := block_lt_of_cell k75
  have lk77 : W3.heap.size < W7.heap.size := block_lt_of_cell k77
  have hv7 : Below w.heap.size w W7 := bstep0 hv6 hb7
  clear hb7 hv6 k55 k56 k57 k58 k59 k60 k61 k62 k63 k64 k65 k66 lk55 lk59 lk63 lk65
  go_wp2_with fail
  refine (H4.out _).mono ?_
  rintro e W8 ⟨rfl, hb8⟩
  have k79 : W8.cell? ⟨w.heap.size, 0, none⟩ = some (.int .i64 a) := kept1 k67 hb8
  have k80 : W8.cell? ⟨w.heap.size, 1, none⟩ = some (.int .i64 b) := kept1 k68 hb8
  have k81 : W8.cell? ⟨w.heap.size, 2, none⟩ = some (.int .i64 c) := kept1 k69 hb8
  have k82 : W8.cell? ⟨w.heap.size, 3, none⟩ = some (.int .i64 d) := kept1 k70 hb8
  have k83 : W8.cell? ⟨w.heap.size + 1, 0, none⟩ = some (.int .i64 e) := kept1 k71 hb8
  have k84 : W8.cell? ⟨w.heap.size + 1, 1, none⟩ = some (.int .i64 f) := kept1 k72 hb8
  have k85 : W8.cell? ⟨w.heap.size + 1, 2, none⟩ = some (.int .i64 g) := kept1 k73 hb8
  have k86 : W8.cell? ⟨w.heap.size + 1, 3, none⟩ = some (.int .i64 h) := kept1 k74 hb8
  have k87 : W8.cell? ⟨w.heap.size + 1 + 1, 0, none⟩ = some (.int .i64 i) := kept1 k75 hb8
  have k88 : W8.cell? ⟨w.heap.size + 1 + 1, 1, none⟩ = some (.int .i64 j) := kept1 k76 hb8
  have k89 : W8.cell? ⟨W3.heap.size, 0, none⟩ = some (.int .i64 p) := kept1 k77 hb8
  have k90 : W8.cell? ⟨W3.heap.size, 1, none⟩ = some (.int .i64 q) := kept1 k78 hb8
  have lk79 : w.heap.size < W8.heap.size := block_lt_of_cell k79
  have lk83 : w.heap.size + 1 < W8.heap.size := block_lt_of_cell k83
  have lk87 : w.heap.size + 1 + 1 < W8.heap.size := block_lt_of_cell k87
  have lk89 : W3.heap.size < W8.heap.size := block_lt_of_cell k89
  have hv8 : Below w.heap.size w W8 := bstep0 hv7 hb8
  clear hb8 hv7 k67 k68 k69 k70 k71 k72 k73 k74 k75 k76 k77 k78 lk67 lk71 lk75 lk77
  go_wp2_with fail
  refine (HR.out _).mono ?_
  rintro e W9 ⟨rfl, hb9⟩
  have k91 : W9.cell? ⟨w.heap.size, 0, none⟩ = some (.int .i64 a) := kept1 k79 hb9
  have k92 : W9.cell? ⟨w.heap.size, 1, none⟩ = some (.int .i64 b) := kept1 k80 hb9
  have k93 : W9.cell? ⟨w.heap.size, 2, none⟩ = some (.int .i64 c) := kept1 k81 hb9
  have k94 : W9.cell? ⟨w.heap.size, 3, none⟩ = some (.int .i64 d) := kept1 k82 hb9
  have k95 : W9.cell? ⟨w.heap.size + 1, 0, none⟩ = some (.int .i64 e) := kept1 k83 hb9
  have k96 : W9.cell? ⟨w.heap.size + 1, 1, none⟩ = some (.int .i64 f) := kept1 k84 hb9
  have k97 : W9.cell? ⟨w.heap.size + 1, 2, none⟩ = some (.int .i64 g) := kept1 k85 hb9
  have k98 : W9.cell? ⟨w.heap.size + 1, 3, none⟩ = some (.int .i64 h) := kept1 k86 hb9
  have k99 : W9.cell? ⟨w.heap.size + 1 + 1, 0, none⟩ = some (.int .i64 i) := kept1 k87 hb9
  have k100 : W9.cell? ⟨w.heap.size + 1 + 1, 1, none⟩ = some (.int .i64 j) := kept1 k88 hb9
  have k101 : W9.cell? ⟨W3.heap.size, 0, none⟩ = some (.int .i64 p) := kept1 k89 hb9
  have k102 : W9.cell? ⟨W3.heap.size, 1, none⟩ = some (.int .i64 q) := kept1 k90 hb9
  have lk91 : w.heap.size < W9.heap.size := block_lt_of_cell k91
  have lk95 : w.heap.size + 1 < W9.heap.size := block_lt_of_cell k95
  have lk99 : w.heap.size + 1 + 1 < W9.heap.size := block_lt_of_cell k99
  have lk101 : W3.heap.size < W9.heap.size := block_lt_of_cell k101
  have hv9 : Below w.heap.size w W9 := bstep0 hv8 hb9
  clear hb9 hv8 k79 k80 k81 k82 k83 k84 k85 k86 k87 k88 k89 k90 lk79 lk83 lk87 lk89
  go_wp2_with fail
  refine (H5.out _).mono ?_
  rintro e W10 ⟨rfl, hb10⟩
  have k103 : W10.cell? ⟨w.heap.size, 0, none⟩ = some (.int .i64 a) := kept_a1 k91 hb10
  have k104 : W10.cell? ⟨w.heap.size, 1, none⟩ = some (.int .i64 b) := kept_a1 k92 hb10
  have k105 : W10.cell? ⟨w.heap.size, 2, none⟩ = some (.int .i64 c) := kept_a1 k93 hb10
  have k106 : W10.cell? ⟨w.heap.size, 3, none⟩ = some (.int .i64 d) := kept_a1 k94 hb10
  have k107 : W10.cell? ⟨w.heap.size + 1, 0, none⟩ = some (.int .i64 e) := kept_a1 k95 hb10
  have k108 : W10.cell? ⟨w.heap.size + 1, 1, none⟩ = some (.int .i64 f) := kept_a1 k96 hb10
  have k109 : W10.cell? ⟨w.heap.size + 1, 2, none⟩ = some (.int .i64 g) := kept_a1 k97 hb10
  have k110 : W10.cell? ⟨w.heap.size + 1, 3, none⟩ = some (.int .i64 h) := kept_a1 k98 hb10
  have k111 : W10.cell? ⟨w.heap.size + 1 + 1, 0, none⟩ = some (.int .i64 i) := kept_a1 k99 hb10
  have k112 : W10.cell? ⟨w.heap.size + 1 + 1, 1, none⟩ = some (.int .i64 j) := kept_a1 k100 hb10
  have k113 : W10.cell? ⟨W3.heap.size, 0, none⟩ = some (.int .i64 p) := kept_a1 k101 hb10
  have k114 : W10.cell? ⟨W3.heap.size, 1, none⟩ = some (.int .i64 q) := kept_a1 k102 hb10
  have k115 : W10.cell? ⟨W9.heap.size, 0, none⟩ = some (.int .i64 p) := kept1 (by simp [go_sem]) hb10
  have k116 : W10.cell? ⟨W9.heap.size, 1, none⟩ = some (.int .i64 q) := kept1 (by simp [go_sem]) hb10
  have lk103 : w.heap.size < W10.heap.size := block_lt_of_cell k103
  have lk107 : w.heap.size + 1 < W10.heap.size := block_lt_of_cell k107
  have lk111 : w.heap.size + 1 + 1 < W10.heap.size := block_lt_of_cell k111
  have lk113 : W3.heap.size < W10.heap.size := block_lt_of_cell k113
  have lk115 : W9.heap.size < W10.heap.size := block_lt_of_cell k115
  have hv10 : Below w.heap.size w W10 := bstep1 hv9 hb10
  clear hb10 hv9 k91 k92 k93 k94 k95 k96 k97 k98 k99 k100 k101 k102 lk91 lk95 lk99 lk101
  go_wp2_with fail
  refine (sanity_tab hT _ hv10).mono ?_
  rintro e W11 ⟨rfl, hb11⟩
  have k117 : W11.cell? ⟨w.heap.size, 0, none⟩ = some (.int .i64 a) := kept1 k103 hb11
  have k118 : W11.cell? ⟨w.heap.size, 1, none⟩ = some (.int .i64 b) := kept1 k104 hb11
  have k119 : W11.cell? ⟨w.heap.size, 2, none⟩ = some (.int .i64 c) := kept1 k105 hb11
  have k120 : W11.cell? ⟨w.heap.size, 3, none⟩ = some (.int .i64 d) := kept1 k106 hb11
  have k121 : W11.cell? ⟨w.heap.size + 1, 0, none⟩ = some (.int .i64 e) := kept1 k107 hb11
  have k122 : W11.cell? ⟨w.heap.size + 1, 1, none⟩ = some (.int .i64 f) := kept1 k108 hb11
  have k123 : W11.cell? ⟨w.heap.size + 1, 2, none⟩ = some (.int .i64 g) := kept1 k109 hb11
  have k124 : W11.cell? ⟨w.heap.size + 1, 3, none⟩ = some (.int .i64 h) := kept1 k110 hb11
  have k125 : W11.cell? ⟨w.heap.size + 1 + 1, 0, none⟩ = some (.int .i64 i) := kept1 k111 hb11
  have k126 : W11.cell? ⟨w.heap.size + 1 + 1, 1, none⟩ = some (.int .i64 j) := kept1 k112 hb11
  have k127 : W11.cell? ⟨W3.heap.size, 0, none⟩ = some (.int .i64 p) := kept1 k113 hb11
  have k128 : W11.cell? ⟨W3.heap.size, 1, none⟩ = some (.int .i64 q) := kept1 k114 hb11
  have k129 : W11.cell? ⟨W9.heap.size, 0, none⟩ = some (.int .i64 p) := kept1 k115 hb11
  have k130 : W11.cell? ⟨W9.heap.size, 1, none⟩ = some (.int .i64 q) := kept1 k116 hb11
  have lk117 : w.heap.size < W11.heap.size := block_lt_of_cell k117
  have lk121 : w.heap.size + 1 < W11.heap.size := block_lt_of_cell k121
  have lk125 : w.heap.size + 1 + 1 < W11.heap.size := block_lt_of_cell k125
  have lk127 : W3.heap.size < W11.heap.size := block_lt_of_cell k127
  have lk129 : W9.heap.size < W11.heap.size := block_lt_of_cell k129
  have hv11 : Below w.heap.size w W11 := bstep0 hv10 hb11
  clear hb11 hv10 k103 k104 k105 k106 k107 k108 k109 k110 k111 k112 k113 k114 k115 k116 lk103 lk107 lk111 lk113 lk115
  go_wp2
  go_ret
  exact ⟨by first | rfl | simp, (by repeat (first | with_reducible exact Below.refl _ _ | with_reducible assumption | refine below_drewN ?_ _ | refine Below.drew ?_ | refine Below.alloc ?_ (by first | (simp; done) | (simp; omega) | omega) _ | refine Below.setCell ?_ (by first | (simp; done) | (simp; omega) | omega) _ | refine Below.trans ?_ (Below.mono (by assumption) (by first | (simp; done) | (simp; omega) | omega))))⟩

theorem has_t {a b c d p q : Int} (h : vrP a b c d) (hv : Rt.vldP p q) (g : a * q ≤ p * b ∧ p * d ≤ c * q) (W : World) :
    Calls Tryd.prog 55 #[.agg #[.int .i64 a, .int .i64 b, .int .i64 c, .int .i64 d], .agg #[.int .i64 p, .int .i64 q]] W fun e w' => e = .returned (.bool true) ∧ Below W.heap.size W w' :=
  (has_ok a b c d p q W h hv).mono fun _ _ ⟨he, hb⟩ => ⟨by rw [he, decide_eq_false (by omega), decide_eq_false (by omega)]; rfl, hb⟩
theorem has_f {a b c d p q : Int} (h : vrP a b c d) (hv : Rt.vldP p q) (g : ¬ (a * q ≤ p * b ∧ p * d ≤ c * q)) (W : World) :
    Calls Tryd.prog 55 #[.agg #[.int .i64 a, .int .i64 b, .int .i64 c, .int .i64 d], .agg #[.int .i64 p, .int .i64 q]] W fun e w' => e = .returned (.bool false) ∧ Below W.heap.size W w' := by
  refine (has_ok a b c d p q W h hv).mono fun _ _ ⟨he, hb⟩ => ⟨?_, hb⟩
  rw [he]
  by_cases g1 : p * b < a * q
  · rw [decide_eq_true g1]; rfl
  · rw [decide_eq_true (show c * q < p * d by omega)]; simp

theorem exactLeast_true (a b c d e f g h i j : Int) (_ : I64 a) (_ : I64 b) (_ : I64 c) (_ : I64 d) (_ : I64 e) (_ : I64 f) (_ : I64 g) (_ : I64 h) (_ : I64 i) (_ : I64 j) (w : World) (hT : Tab w.heap.size w) :
    Calls Tryd.prog 14 #[.agg #[.int .i64 a, .int .i64 b, .int .i64 c, .int .i64 d], .agg #[.int .i64 e, .int .i64 f, .int .i64 g, .int .i64 h], .agg #[.int .i64 i, .int .i64 j]] w fun e w' => e = .returned (.bool true) ∧ Below w.heap.size w w' := by
  replace hT := Lib.hid hT
  by_cases hx : vrP a b c d
  · by_cases ha : Rt.vldP i j
    · have sx := smp_spec hx
      have HS := Lib.hid fun W => smp_ok a b c d W hx
      have H1 := Lib.hid (has_t hx sx.v ⟨sx.lo, sx.hi⟩)
      by_cases g1 : a * j ≤ i * b ∧ i * d ≤ c * j
      · have H2 := Lib.hid (has_t hx ha g1)
        have m1 := (sx.least i j ha.1 g1.1 g1.2).1
        by_cases hy : vrP e f g h
        · by_cases g3 : a * f ≤ e * b ∧ e * d ≤ c * f
          · have H3 := Lib.hid (has_t hx hy.1 g3)
            by_cases g4 : a * h ≤ g * b ∧ g * d ≤ c * h
            · have H4 := Lib.hid (has_t hx hy.2.1 g4)
              have sub := smp_sub hx hy g3.1 g4.2
              by_cases g5 : e * (smp a b c d).2 ≤ (smp a b c d).1 * f ∧ (smp a b c d).1 * h ≤ g * (smp a b c d).2
              · have eq := sub.2 g5.1 g5.2
                exact least_T3T a b c d e f g h i j _ _ (Lib.hid hx) (Lib.hid ha) HS H1 H2 m1 (Lib.hid hy) H3 H4 (Lib.hid fun W => by rw [← eq]; exact smp_ok e f g h W hy) (Lib.hid (has_t hy sx.v g5)) w hT
              · exact least_T3F a b c d e f g h i j _ _ _ _ (Lib.hid hx) (Lib.hid ha) HS H1 H2 m1 (Lib.hid hy) H3 H4 (Lib.hid fun W => smp_ok e f g h W hy) sub.1 (Lib.hid (has_f hy sx.v g5)) w hT
            · exact least_T2 a b c d e f g h i j _ _ (Lib.hid hx) (Lib.hid ha) HS H1 H2 m1 (Lib.hid hy) H3 (Lib.hid (has_f hx hy.2.1 g4)) w hT
          · exact least_T1 a b c d e f g h i j _ _ (Lib.hid hx) (Lib.hid ha) HS H1 H2 m1 (Lib.hid hy) (Lib.hid (has_f hx hy.1 g3)) w hT
        · exact least_T0 a b c d e f g h i j _ _ (Lib.hid hx) (Lib.hid ha) HS H1 H2 m1 (Lib.hid hy) w hT
      · have H2 := Lib.hid (has_f hx ha g1)
        by_cases hy : vrP e f g h
        · by_cases g3 : a * f ≤ e * b ∧ e * d ≤ c * f
          · have H3 := Lib.hid (has_t hx hy.1 g3)
            by_cases g4 : a * h ≤ g * b ∧ g * d ≤ c * h
            · have H4 := Lib.hid (has_t hx hy.2.1 g4)
              have sub := smp_sub hx hy g3.1 g4.2
              by_cases g5 : e * (smp a b c d).2 ≤ (smp a b c d).1 * f ∧ (smp a b c d).1 * h ≤ g * (smp a b c d).2
              · have eq := sub.2 g5.1 g5.2
                exact least_F3T a b c d e f g h i j _ _ (Lib.hid hx) (Lib.hid ha) HS H1 H2 (Lib.hid hy) H3 H4 (Lib.hid fun W => by rw [← eq]; exact smp_ok e f g h W hy) (Lib.hid (has_t hy sx.v g5)) w hT
              · exact least_F3F a b c d e f g h i j _ _ _ _ (Lib.hid hx) (Lib.hid ha) HS H1 H2 (Lib.hid hy) H3 H4 (Lib.hid fun W => smp_ok e f g h W hy) sub.1 (Lib.hid (has_f hy sx.v g5)) w hT
            · exact least_F2 a b c d e f g h i j _ _ (Lib.hid hx) (Lib.hid ha) HS H1 H2 (Lib.hid hy) H3 (Lib.hid (has_f hx hy.2.1 g4)) w hT
          · exact least_F1 a b c d e f g h i j _ _ (Lib.hid hx) (Lib.hid ha) HS H1 H2 (Lib.hid hy) (Lib.hid (has_f hx hy.1 g3)) w hT
        · exact least_F0 a b c d e f g h i j _ _ (Lib.hid hx) (Lib.hid ha) HS H1 H2 (Lib.hid hy) w hT
    · exact least_out2 a b c d e f g h i j (Lib.hid hx) (Lib.hid ha) w hT
  · exact least_out1 a b c d e f g h i j (Lib.hid hx) w hT
end Go.Proofs.YtpbomeoonknifaaDoor
