/- The law ExactBetween: it returns true. -/
import Derived.Test.YtpbomeoonknifaaDoorLBetween1
import Derived.Test.YtpbomeoonknifaaDoorLBetween2
import Derived.Test.YtpbomeoonknifaaDoorLBetween3
import Derived.Test.YtpbomeoonknifaaDoorCg
namespace Go.Proofs.YtpbomeoonknifaaDoor
open Go.RowKit Go.Shelf

set_option maxRecDepth 100000 in
set_option maxHeartbeats 2000000 in
theorem between_out1 (a b c d e f g h i j k l n : Int) (hx : Hid (¬ vrP a b c d)) (w : World) (hT : Hid (Tab w.heap.size w)) :
    Calls Tryd.prog 16 #[.agg #[.int .i64 a, .int .i64 b, .int .i64 c, .int .i64 d], .agg #[.int .i64 e, .int .i64 f, .int .i64 g, .int .i64 h], .agg #[.int .i64 i, .int .i64 j], .agg #[.int .i64 k, .int .i64 l], .int .i64 n] w fun e w' => e = .returned (.bool true) ∧ Below w.heap.size w w' := by
  go_enter Tryd.func16, Tryd.ntmps16
  go_wp2_with fail
  refine (rvrange_not a b c d _ hx.out).mono ?_
  rintro e W1 ⟨rfl, hb1⟩
  have k1 : W1.cell? ⟨w.heap.size, 0, none⟩ = some (.int .i64 a) := kept1 (by simp [go_sem]) hb1
  have k2 : W1.cell? ⟨w.heap.size, 1, none⟩ = some (.int .i64 b) := kept1 (by simp [go_sem]) hb1
  have k3 : W1.cell? ⟨w.heap.size, 2, none⟩ = some (.int .i64 c) := kept1 (by simp [go_sem]) hb1
  have k4 : W1.cell? ⟨w.heap.size, 3, none⟩ = some (.int .i64 d) := kept1 (by simp [go_sem]) hb1
  have k5 : W1.cell? ⟨w.heap.size + 1, 0, none⟩ = some (.int .i64 e) := kept1 (by simp [go_sem]) hb1
  have k6 : W1.cell? ⟨w.heap.size + 1, 1, none⟩ = some (.int .i64 f) := kept1 (by simp [go_sem]) hb1
  have k7 : W1.cell? ⟨w.heap.size + 1, 2, none⟩ = some (.int .i64 g) := kept1 (by simp [go_sem]) hb1
  have k8 : W1.cell? ⟨w.heap.size + 1, 3, none⟩ = some (.int .i64 h) := kept1 (by simp [go_sem]) hb1
  have k9 : W1.cell? ⟨w.heap.size + 1 + 1, 0, none⟩ = some (.int .i64 i) := kept1 (by simp [go_sem]) hb1
  have k10 : W1.cell? ⟨w.heap.size + 1 + 1, 1, none⟩ = some (.int .i64 j) := kept1 (by simp [go_sem]) hb1
  have k11 : W1.cell? ⟨w.heap.size + 1 + 1 + 1, 0, none⟩ = some (.int .i64 k) := kept1 (by simp [go_sem]) hb1
  have k12 : W1.cell? ⟨w.heap.size + 1 + 1 + 1, 1, none⟩ = some (.int .i64 l) := kept1 (by simp [go_sem]) hb1
  have lk1 : w.heap.size < W1.heap.size := block_lt_of_cell k1
  have lk5 : w.heap.size + 1 < W1.heap.size := block_lt_of_cell k5
  have lk9 : w.heap.size + 1 + 1 < W1.heap.size := block_lt_of_cell k9
  have lk11 : w.heap.size + 1 + 1 + 1 < W1.heap.size := block_lt_of_cell k11
  have hv1 : Below w.heap.size w W1 := bstep4 (Below.refl _ _) hb1
  clear hb1  
  go_wp2_with fail
  refine (sanity_tab hT _ hv1).mono ?_
  rintro e W2 ⟨rfl, hb2⟩
  have k13 : W2.cell? ⟨w.heap.size, 0, none⟩ = some (.int .i64 a) := kept1 k1 hb2
  have k14 : W2.cell? ⟨w.heap.size, 1, none⟩ = some (.int .i64 b) := kept1 k2 hb2
  have k15 : W2.cell? ⟨w.heap.size, 2, none⟩ = some (.int .i64 c) := kept1 k3 hb2
  have k16 : W2.cell? ⟨w.heap.size, 3, none⟩ = some (.int .i64 d) := kept1 k4 hb2
  have k17 : W2.cell? ⟨w.heap.size + 1, 0, none⟩ = some (.int .i64 e) := kept1 k5 hb2
  have k18 : W2.cell? ⟨w.heap.size + 1, 1, none⟩ = some (.int .i64 f) := kept1 k6 hb2
  have k19 : W2.cell? ⟨w.heap.size + 1, 2, none⟩ = some (.int .i64 g) := kept1 k7 hb2
  have k20 : W2.cell? ⟨w.heap.size + 1, 3, none⟩ = some (.int .i64 h) := kept1 k8 hb2
  have k21 : W2.cell? ⟨w.heap.size + 1 + 1, 0, none⟩ = some (.int .i64 i) := kept1 k9 hb2
  have k22 : W2.cell? ⟨w.heap.size + 1 + 1, 1, none⟩ = some (.int .i64 j) := kept1 k10 hb2
  have k23 : W2.cell? ⟨w.heap.size + 1 + 1 + 1, 0, none⟩ = some (.int .i64 k) := kept1 k11 hb2
  have k24 : W2.cell? ⟨w.heap.size + 1 + 1 + 1, 1, none⟩ = some (.int .i64 l) := kept1 k12 hb2
  have lk13 : w.heap.size < W2.heap.size := block_lt_of_cell k13
  have lk17 : w.heap.size + 1 < W2.heap.size := block_lt_of_cell k17
  have lk21 : w.heap.size + 1 + 1 < W2.heap.size := block_lt_of_cell k21
  have lk23 : w.heap.size + 1 + 1 + 1 < W2.heap.size := block_lt_of_cell k23
  have hv2 : Below w.heap.size w W2 := bstep0 hv1 hb2
  clear hb2 hv1 k1 k2 k3 k4 k5 k6 k7 k8 k9 k10 k11 k12 lk1 lk5 lk9 lk11
  go_wp2
  go_ret
  exact ⟨by first | rfl | simp, (by repeat (first | with_reducible exact Below.refl _ _ | with_reducible assumption | refine below_drewN ?_ _ | refine Below.drew ?_ | refine Below.alloc ?_ (by first | (simp; done) | (simp; omega) | omega) _ | refine Below.setCell ?_ (by first | (simp; done) | (simp; omega) | omega) _ | refine Below.trans ?_ (Below.mono (by assumption) (by first | (simp; done) | (simp; omega) | omega))))⟩

set_option maxRecDepth 100000 in
set_option maxHeartbeats 2000000 in
theorem between_out2 (a b c d e f g h i j k l n : Int) (hx : Hid (vrP a b c d)) (hy : Hid (¬ vrP e f g h)) (w : World) (hT : Hid (Tab w.heap.size w)) :
    Calls Tryd.prog 16 #[.agg #[.int .i64 a, .int .i64 b, .int .i64 c, .int .i64 d], .agg #[.int .i64 e, .int .i64 f, .int .i64 g, .int .i64 h], .agg #[.int .i64 i, .int .i64 j], .agg #[.int .i64 k, .int .i64 l], .int .i64 n] w fun e w' => e = .returned (.bool true) ∧ Below w.heap.size w w' := by
  go_enter Tryd.func16, Tryd.ntmps16
  go_wp2_with fail
  refine (rvrange_yes a b c d _ hx.out).mono ?_
  rintro e W1 ⟨rfl, hb1⟩
  have k1 : W1.cell? ⟨w.heap.size, 0, none⟩ = some (.int .i64 a) := kept1 (by simp [go_sem]) hb1
  have k2 : W1.cell? ⟨w.heap.size, 1, none⟩ = some (.int .i64 b) := kept1 (by simp [go_sem]) hb1
  have k3 : W1.cell? ⟨w.heap.size, 2, none⟩ = some (.int .i64 c) := kept1 (by simp [go_sem]) hb1
  have k4 : W1.cell? ⟨w.heap.size, 3, none⟩ = some (.int .i64 d) := kept1 (by simp [go_sem]) hb1
  have k5 : W1.cell? ⟨w.heap.size + 1, 0, none⟩ = some (.int .i64 e) := kept1 (by simp [go_sem]) hb1
  have k6 : W1.cell? ⟨w.heap.size + 1, 1, none⟩ = some (.int .i64 f) := kept1 (by simp [go_sem]) hb1
  have k7 : W1.cell? ⟨w.heap.size + 1, 2, none⟩ = some (.int .i64 g) := kept1 (by simp [go_sem]) hb1
  have k8 : W1.cell? ⟨w.heap.size + 1, 3, none⟩ = some (.int .i64 h) := kept1 (by simp [go_sem]) hb1
  have k9 : W1.cell? ⟨w.heap.size + 1 + 1, 0, none⟩ = some (.int .i64 i) := kept1 (by simp [go_sem]) hb1
  have k10 : W1.cell? ⟨w.heap.size + 1 + 1, 1, none⟩ = some (.int .i64 j) := kept1 (by simp [go_sem]) hb1
  have k11 : W1.cell? ⟨w.heap.size + 1 + 1 + 1, 0, none⟩ = some (.int .i64 k) := kept1 (by simp [go_sem]) hb1
  have k12 : W1.cell? ⟨w.heap.size + 1 + 1 + 1, 1, none⟩ = some (.int .i64 l) := kept1 (by simp [go_sem]) hb1
  have lk1 : w.heap.size < W1.heap.size := block_lt_of_cell k1
  have lk5 : w.heap.size + 1 < W1.heap.size := block_lt_of_cell k5
  have lk9 : w.heap.size + 1 + 1 < W1.heap.size := block_lt_of_cell k9
  have lk11 : w.heap.size + 1 + 1 + 1 < W1.heap.size := block_lt_of_cell k11
  have hv1 : Below w.heap.size w W1 := bstep4 (Below.refl _ _) hb1
  clear hb1  
  go_wp2_with fail
  refine (rvrange_not e f g h _ hy.out).mono ?_
  rintro e W2 ⟨rfl, hb2⟩
  have k13 : W2.cell? ⟨w.heap.size, 0, none⟩ = some (.int .i64 a) := kept1 k1 hb2
  have k14 : W2.cell? ⟨w.heap.size, 1, none⟩ = some (.int .i64 b) := kept1 k2 hb2
  have k15 : W2.cell? ⟨w.heap.size, 2, none⟩ = some (.int .i64 c) := kept1 k3 hb2
  have k16 : W2.cell? ⟨w.heap.size, 3, none⟩ = some (.int .i64 d) := kept1 k4 hb2
  have k17 : W2.cell? ⟨w.heap.size + 1, 0, none⟩ = some (.int .i64 e) := kept1 k5 hb2
  have k18 : W2.cell? ⟨w.heap.size + 1, 1, none⟩ = some (.int .i64 f) := kept1 k6 hb2
  have k19 : W2.cell? ⟨w.heap.size + 1, 2, none⟩ = some (.int .i64 g) := kept1 k7 hb2
  have k20 : W2.cell? ⟨w.heap.size + 1, 3, none⟩ = some (.int .i64 h) := kept1 k8 hb2
  have k21 : W2.cell? ⟨w.heap.size + 1 + 1, 0, none⟩ = some (.int .i64 i) := kept1 k9 hb2
  have k22 : W2.cell? ⟨w.heap.size + 1 + 1, 1, none⟩ = some (.int .i64 j) := kept1 k10 hb2
  have k23 : W2.cell? ⟨w.heap.size + 1 + 1 + 1, 0, none⟩ = some (.int .i64 k) := kept1 k11 hb2
  have k24 : W2.cell? ⟨w.heap.size + 1 + 1 + 1, 1, none⟩ = some (.int .i64 l) := kept1 k12 hb2
  have lk13 : w.heap.size < W2.heap.size := block_lt_of_cell k13
  have lk17 : w.heap.size + 1 < W2.heap.size := block_lt_of_cell k17
  have lk21 : w.heap.size + 1 + 1 < W2.heap.size := block_lt_of_cell k21
  have lk23 : w.heap.size + 1 + 1 + 1 < W2.heap.size := block_lt_of_cell k23
  have hv2 : Below w.heap.size w W2 := bstep0 hv1 hb2
  clear hb2 hv1 k1 k2 k3 k4 k5 k6 k7 k8 k9 k10 k11 k12 lk1 lk5 lk9 lk11
  go_wp2_with fail
  refine (sanity_tab hT _ hv2).mono ?_
  rintro e W3 ⟨rfl, hb3⟩
  have k25 : W3.cell? ⟨w.heap.size, 0, none⟩ = some (.int .i64 a) := kept1 k13 hb3
  have k26 : W3.cell? ⟨w.heap.size, 1, none⟩ = some (.int .i64 b) := kept1 k14 hb3
  have k27 : W3.cell? ⟨w.heap.size, 2, none⟩ = some (.int .i64 c) := kept1 k15 hb3
  have k28 : W3.cell? ⟨w.heap.size, 3, none⟩ = some (.int .i64 d) := kept1 k16 hb3
  have k29 : W3.cell? ⟨w.heap.size + 1, 0, none⟩ = some (.int .i64 e) := kept1 k17 hb3
  have k30 : W3.cell? ⟨w.heap.size + 1, 1, none⟩ = some (.int .i64 f) := kept1 k18 hb3
  have k31 : W3.cell? ⟨w.heap.size + 1, 2, none⟩ = some (.int .i64 g) := kept1 k19 hb3
  have k32 : W3.cell? ⟨w.heap.size + 1, 3, none⟩ = some (.int .i64 h) := kept1 k20 hb3
  have k33 : W3.cell? ⟨w.heap.size + 1 + 1, 0, none⟩ = some (.int .i64 i) := kept1 k21 hb3
  have k34 : W3.cell? ⟨w.heap.size + 1 + 1, 1, none⟩ = some (.int .i64 j) := kept1 k22 hb3
  have k35 : W3.cell? ⟨w.heap.size + 1 + 1 + 1, 0, none⟩ = some (.int .i64 k) := kept1 k23 hb3
  have k36 : W3.cell? ⟨w.heap.size + 1 + 1 + 1, 1, none⟩ = some (.int .i64 l) := kept1 k24 hb3
  have lk25 : w.heap.size < W3.heap.size := block_lt_of_cell k25
  have lk29 : w.heap.size + 1 < W3.heap.size := block_lt_of_cell k29
  have lk33 : w.heap.size + 1 + 1 < W3.heap.size := block_lt_of_cell k33
  have lk35 : w.heap.size + 1 + 1 + 1 < W3.heap.size := block_lt_of_cell k35
  have hv3 : Below w.heap.size w W3 := bstep0 hv2 hb3
  clear hb3 hv2 k13 k14 k15 k16 k17 k18 k19 k20 k21 k22 k23 k24 lk13 lk17 lk21 lk23
  go_wp2
  go_ret
  exact ⟨by first | rfl | simp, (by repeat (first | with_reducible exact Below.refl _ _ | with_reducible assumption | refine below_drewN ?_ _ | refine Below.drew ?_ | refine Below.alloc ?_ (by first | (simp; done) | (simp; omega) | omega) _ | refine Below.setCell ?_ (by first | (simp; done) | (simp; omega) | omega) _ | refine Below.trans ?_ (Below.mono (by assumption) (by first | (simp; done) | (simp; omega) | omega))))⟩

set_option maxRecDepth 100000 in
set_option maxHeartbeats 2000000 in
theorem between_out3 (a b c d e f g h i j k l n : Int) (hx : Hid (vrP a b c d)) (hy : Hid (vrP e f g h)) (KW : Hid (∀ W : World, Calls Tryd.prog 31 #[.agg #[.int .i64 i, .int .i64 j], .agg #[.int .i64 k, .int .i64 l]] W fun e w' => e = .returned (.bool true) ∧ Below W.heap.size W w')) (w : World) (hT : Hid (Tab w.heap.size w)) :
    Calls Tryd.prog 16 #[.agg #[.int .i64 a, .int .i64 b, .int .i64 c, .int .i64 d], .agg #[.int .i64 e, .int .i64 f, .int .i64 g, .int .i64 h], .agg #[.int .i64 i, .int .i64 j], .agg #[.int .i64 k, .int .i64 l], .int .i64 n] w fun e w' => e = .returned (.bool true) ∧ Below w.heap.size w w' := by
  go_enter Tryd.func16, Tryd.ntmps16
  go_wp2_with fail
  refine (rvrange_yes a b c d _ hx.out).mono ?_
  rintro e W1 ⟨rfl, hb1⟩
  have k1 : W1.cell? ⟨w.heap.size, 0, none⟩ = some (.int .i64 a) := kept1 (by simp [go_sem]) hb1
  have k2 : W1.cell? ⟨w.heap.size, 1, none⟩ = some (.int .i64 b) := kept1 (by simp [go_sem]) hb1
  have k3 : W1.cell? ⟨w.heap.size, 2, none⟩ = some (.int .i64 c) := kept1 (by simp [go_sem]) hb1
  have k4 : W1.cell? ⟨w.heap.size, 3, none⟩ = some (.int .i64 d) := kept1 (by simp [go_sem]) hb1
  have k5 : W1.cell? ⟨w.heap.size + 1, 0, none⟩ = some (.int .i64 e) := kept1 (by simp [go_sem]) hb1
  have k6 : W1.cell? ⟨w.heap.size + 1, 1, none⟩ = some (.int .i64 f) := kept1 (by simp [go_sem]) hb1
  have k7 : W1.cell? ⟨w.heap.size + 1, 2, none⟩ = some (.int .i64 g) := kept1 (by simp [go_sem]) hb1
  have k8 : W1.cell? ⟨w.heap.size + 1, 3, none⟩ = some (.int .i64 h) := kept1 (by simp [go_sem]) hb1
  have k9 : W1.cell? ⟨w.heap.size + 1 + 1, 0, none⟩ = some (.int .i64 i) := kept1 (by simp [go_sem]) hb1
  have k10 : W1.cell? ⟨w.heap.size + 1 + 1, 1, none⟩ = some (.int .i64 j) := kept1 (by simp [go_sem]) hb1
  have k11 : W1.cell? ⟨w.heap.size + 1 + 1 + 1, 0, none⟩ = some (.int .i64 k) := kept1 (by simp [go_sem]) hb1
  have k12 : W1.cell? ⟨w.heap.size + 1 + 1 + 1, 1, none⟩ = some (.int .i64 l) := kept1 (by simp [go_sem]) hb1
  have lk1 : w.heap.size < W1.heap.size := block_lt_of_cell k1
  have lk5 : w.heap.size + 1 < W1.heap.size := block_lt_of_cell k5
  have lk9 : w.heap.size + 1 + 1 < W1.heap.size := block_lt_of_cell k9
  have lk11 : w.heap.size + 1 + 1 + 1 < W1.heap.size := block_lt_of_cell k11
  have hv1 : Below w.heap.size w W1 := bstep4 (Below.refl _ _) hb1
  clear hb1  
  go_wp2_with fail
  refine (rvrange_yes e f g h _ hy.out).mono ?_
  rintro e W2 ⟨rfl, hb2⟩
  have k13 : W2.cell? ⟨w.heap.size, 0, none⟩ = some (.int .i64 a) := kept1 k1 hb2
  have k14 : W2.cell? ⟨w.heap.size, 1, none⟩ = some (.int .i64 b) := kept1 k2 hb2
  have k15 : W2.cell? ⟨w.heap.size, 2, none⟩ = some (.int .i64 c) := kept1 k3 hb2
  have k16 : W2.cell? ⟨w.heap.size, 3, none⟩ = some (.int .i64 d) := kept1 k4 hb2
  have k17 : W2.cell? ⟨w.heap.size + 1, 0, none⟩ = some (.int .i64 e) := kept1 k5 hb2
  have k18 : W2.cell? ⟨w.heap.size + 1, 1, none⟩ = some (.int .i64 f) := kept1 k6 hb2
  have k19 : W2.cell? ⟨w.heap.size + 1, 2, none⟩ = some (.int .i64 g) := kept1 k7 hb2
  have k20 : W2.cell? ⟨w.heap.size + 1, 3, none⟩ = some (.int .i64 h) := kept1 k8 hb2
  have k21 : W2.cell? ⟨w.heap.size + 1 + 1, 0, none⟩ = some (.int .i64 i) := kept1 k9 hb2
  have k22 : W2.cell? ⟨w.heap.size + 1 + 1, 1, none⟩ = some (.int .i64 j) := kept1 k10 hb2
  have k23 : W2.cell? ⟨w.heap.size + 1 + 1 + 1, 0, none⟩ = some (.int .i64 k) := kept1 k11 hb2
  have k24 : W2.cell? ⟨w.heap.size + 1 + 1 + 1, 1, none⟩ = some (.int .i64 l) := kept1 k12 hb2
  have lk13 : w.heap.size < W2.heap.size := block_lt_of_cell k13
  have lk17 : w.heap.size + 1 < W2.heap.size := block_lt_of_cell k17
  have lk21 : w.heap.size + 1 + 1 < W2.heap.size := block_lt_of_cell k21
  have lk23 : w.heap.size + 1 + 1 + 1 < W2.heap.size := block_lt_of_cell k23
  have hv2 : Below w.heap.size w W2 := bstep0 hv1 hb2
  clear hb2 hv1 k1 k2 k3 k4 k5 k6 k7 k8 k9 k10 k11 k12 lk1 lk5 lk9 lk11
  go_wp2_with fail
  refine (KW.out _).mono ?_
  rintro e W3 ⟨rfl, hb3⟩
  have k25 : W3.cell? ⟨w.heap.size, 0, none⟩ = some (.int .i64 a) := kept1 k13 hb3
  have k26 : W3.cell? ⟨w.heap.size, 1, none⟩ = some (.int .i64 b) := kept1 k14 hb3
  have k27 : W3.cell? ⟨w.heap.size, 2, none⟩ = some (.int .i64 c) := kept1 k15 hb3
  have k28 : W3.cell? ⟨w.heap.size, 3, none⟩ = some (.int .i64 d) := kept1 k16 hb3
  have k29 : W3.cell? ⟨w.heap.size + 1, 0, none⟩ = some (.int .i64 e) := kept1 k17 hb3
  have k30 : W3.cell? ⟨w.heap.size + 1, 1, none⟩ = some (.int .i64 f) := kept1 k18 hb3
  have k31 : W3.cell? ⟨w.heap.size + 1, 2, none⟩ = some (.int .i64 g) := kept1 k19 hb3
  have k32 : W3.cell? ⟨w.heap.size + 1, 3, none⟩ = some (.int .i64 h) := kept1 k20 hb3
  have k33 : W3.cell? ⟨w.heap.size + 1 + 1, 0, none⟩ = some (.int .i64 i) := kept1 k21 hb3
  have k34 : W3.cell? ⟨w.heap.size + 1 + 1, 1, none⟩ = some (.int .i64 j) := kept1 k22 hb3
  have k35 : W3.cell? ⟨w.heap.size + 1 + 1 + 1, 0, none⟩ = some (.int .i64 k) := kept1 k23 hb3
  have k36 : W3.cell? ⟨w.heap.size + 1 + 1 + 1, 1, none⟩ = some (.int .i64 l) := kept1 k24 hb3
  have lk25 : w.heap.size < W3.heap.size := block_lt_of_cell k25
  have lk29 : w.heap.size + 1 < W3.heap.size := block_lt_of_cell k29
  have lk33 : w.heap.size + 1 + 1 < W3.heap.size := block_lt_of_cell k33
  have lk35 : w.heap.size + 1 + 1 + 1 < W3.heap.size := block_lt_of_cell k35
  have hv3 : Below w.heap.size w W3 := bstep0 hv2 hb3
  clear hb3 hv2 k13 k14 k15 k16 k17 k18 k19 k20 k21 k22 k23 k24 lk13 lk17 lk21 lk23
  go_wp2_with fail
  refine (sanity_tab hT _ hv3).mono ?_
  rintro e W4 ⟨rfl, hb4⟩
  have k37 : W4.cell? ⟨w.heap.size, 0, none⟩ = some (.int .i64 a) := kept1 k25 hb4
  have k38 : W4.cell? ⟨w.heap.size, 1, none⟩ = some (.int .i64 b) := kept1 k26 hb4
  have k39 : W4.cell? ⟨w.heap.size, 2, none⟩ = some (.int .i64 c) := kept1 k27 hb4
  have k40 : W4.cell? ⟨w.heap.size, 3, none⟩ = some (.int .i64 d) := kept1 k28 hb4
  have k41 : W4.cell? ⟨w.heap.size + 1, 0, none⟩ = some (.int .i64 e) := kept1 k29 hb4
  have k42 : W4.cell? ⟨w.heap.size + 1, 1, none⟩ = some (.int .i64 f) := kept1 k30 hb4
  have k43 : W4.cell? ⟨w.heap.size + 1, 2, none⟩ = some (.int .i64 g) := kept1 k31 hb4
  have k44 : W4.cell? ⟨w.heap.size + 1, 3, none⟩ = some (.int .i64 h) := kept1 k32 hb4
  have k45 : W4.cell? ⟨w.heap.size + 1 + 1, 0, none⟩ = some (.int .i64 i) := kept1 k33 hb4
  have k46 : W4.cell? ⟨w.heap.size + 1 + 1, 1, none⟩ = some (.int .i64 j) := kept1 k34 hb4
  have k47 : W4.cell? ⟨w.heap.size + 1 + 1 + 1, 0, none⟩ = some (.int .i64 k) := kept1 k35 hb4
  have k48 : W4.cell? ⟨w.heap.size + 1 + 1 + 1, 1, none⟩ = some (.int .i64 l) := kept1 k36 hb4
  have lk37 : w.heap.size < W4.heap.size := block_lt_of_cell k37
  have lk41 : w.heap.size + 1 < W4.heap.size := block_lt_of_cell k41
  have lk45 : w.heap.size + 1 + 1 < W4.heap.size := block_lt_of_cell k45
  have lk47 : w.heap.size + 1 + 1 + 1 < W4.heap.size := block_lt_of_cell k47
  have hv4 : Below w.heap.size w W4 := bstep0 hv3 hb4
  clear hb4 hv3 k25 k26 k27 k28 k29 k30 k31 k32 k33 k34 k35 k36 lk25 lk29 lk33 lk35
  go_wp2
  go_ret
  exact ⟨by first | rfl | simp, (by repeat (first | with_reducible exact Below.refl _ _ | with_reducible assumption | refine below_drewN ?_ _ | refine Below.drew ?_ | refine Below.alloc ?_ (by first | (simp; done) | (simp; omega) | omega) _ | refine Below.setCell ?_ (by first | (simp; done) | (simp; omega) | omega) _ | refine Below.trans ?_ (Below.mono (by assumption) (by first | (simp; done) | (simp; omega) | omega))))⟩

theorem c7_of (E : Rt.Num) (t u : Bool) (h : E.e ≠ 0 → (t && u) = false) : (E.e = 0 ∧ t = true ∧ u = true ∧ (t && u) = true) ∨ (E.e = 0 ∧ t = true ∧ u = false ∧ (t && u) = false) ∨ (E.e = 0 ∧ t = false ∧ u = true ∧ (t && u) = false) ∨
    (E.e = 0 ∧ t = false ∧ u = false ∧ (t && u) = false) ∨ (E.e ≠ 0 ∧ t = true ∧ u = false) ∨ (E.e ≠ 0 ∧ t = false ∧ u = true) ∨ (E.e ≠ 0 ∧ t = false ∧ u = false) := by
  by_cases e : E.e = 0
  · cases t <;> cases u <;> simp [e]
  · have := h e
    cases t <;> cases u <;> simp_all
theorem c11_of (E x : Rt.Num) (t yb : Bool) : E.e ≠ 0 ∨ (E.e = 0 ∧ x.e ≠ 0) ∨ (E.e = 0 ∧ x.e = 0 ∧ t = false) ∨ (E.e = 0 ∧ x.e = 0 ∧ t = true ∧ yb = false) ∨ (E.e = 0 ∧ x.e = 0 ∧ t = true ∧ yb = true) := by
  by_cases e : E.e = 0
  · by_cases e2 : x.e = 0
    · cases t <;> cases yb <;> simp [e, e2]
    · simp [e, e2]
  · exact .inl e
theorem c15_of (E x : Rt.Num) (t : Bool) : E.e ≠ 0 ∨ (E.e = 0 ∧ x.e ≠ 0) ∨ (E.e = 0 ∧ x.e = 0 ∧ t = false) ∨ (E.e = 0 ∧ x.e = 0 ∧ t = true) := by
  by_cases e : E.e = 0
  · by_cases e2 : x.e = 0
    · cases t <;> simp [e, e2]
    · simp [e, e2]
  · exact .inl e

theorem meet_form {L H L' H' A : Rat} (hL : Rt.Fits L) (hH : Rt.Fits H) (h : L ≤ H) (hL' : Rt.Fits L') (hH' : Rt.Fits H') (h' : L' ≤ H') (hA : Rt.Fits A) : ∃ (m1 m2 m3 m4 : Int) (E : Rt.Num),
    (∀ W : World, Calls Tryd.prog 57 #[.agg #[.int .i64 L.num, .int .i64 (L.den : Int), .int .i64 H.num, .int .i64 (H.den : Int)], .agg #[.int .i64 L'.num, .int .i64 (L'.den : Int), .int .i64 H'.num, .int .i64 (H'.den : Int)]] W fun e w' =>
      e = .returned (.tuple #[.agg #[.int .i64 m1, .int .i64 m2, .int .i64 m3, .int .i64 m4], .int .i64 E.e]) ∧ Below W.heap.size W w') ∧
    (E.e = 0 → ∀ W : World, Calls Tryd.prog 55 #[.agg #[.int .i64 m1, .int .i64 m2, .int .i64 m3, .int .i64 m4], .agg #[.int .i64 A.num, .int .i64 (A.den : Int)]] W fun e w' => e = .returned (.bool (Rt.inR L H A && Rt.inR L' H' A)) ∧ Below W.heap.size W w') ∧
    (E.e ≠ 0 → (Rt.inR L H A && Rt.inR L' H' A) = false) := by
  have m := meet_rat hL hH h hL' hH' h'
  by_cases g : Rt.rmn H H' < Rt.rmx L L'
  · refine ⟨0, 0, 0, 0, ⟨0, 0, 5⟩, fun W => ?_, fun x => by simp at x, fun _ => Rt.not_meet g⟩
    have := m W
    rw [if_pos g] at this
    exact this
  · refine ⟨(Rt.rmx L L').num, (Rt.rmx L L').den, (Rt.rmn H H').num, (Rt.rmn H H').den, ⟨0, 0, 0⟩, fun W => ?_, fun _ W => ?_, fun x => (x rfl).elim⟩
    · have := m W
      rw [if_neg g] at this
      exact this
    · rw [← Rt.in_meet]
      exact has_rat (Rt.rmx_fits hL hL') (Rt.rmn_fits hH hH') (Rat.not_lt.1 g) hA W

theorem whole_form {a b c d n : Int} (h : vrP a b c d) : ∃ (w1 w2 : Int) (E : Rt.Num),
    (∀ W : World, Calls Tryd.prog 61 #[.agg #[.int .i64 a, .int .i64 b, .int .i64 c, .int .i64 d]] W fun e w' => e = .returned (.tuple #[.agg #[.int .i64 w1, .int .i64 w2], .int .i64 E.e]) ∧ Below W.heap.size W w') ∧
    ((E.e ≠ 0 ∧ decide (a ≤ n * b ∧ n * d ≤ c) = false) ∨ (E.e = 0 ∧ n < w1 ∧ decide (a ≤ n * b ∧ n * d ≤ c) = false) ∨ (E.e = 0 ∧ w1 ≤ n ∧ w2 < n ∧ decide (a ≤ n * b ∧ n * d ≤ c) = false) ∨ (E.e = 0 ∧ w1 ≤ n ∧ n ≤ w2 ∧ decide (a ≤ n * b ∧ n * d ≤ c) = true)) := by
  have wi := Rt.whole_in (a := a) (b := b) (c := c) (d := d) (n := n) (by have := h.1.1; omega) (by have := h.2.1.1; omega)
  by_cases g : Rt.cl a b ≤ c / d
  · refine ⟨Rt.cl a b, c / d, ⟨0, 0, 0⟩, fun W => whole_ok a b c d _ _ W h (Lib.hid rfl) (Lib.hid rfl) g, .inr ?_⟩
    by_cases g1 : n < Rt.cl a b
    · exact .inl ⟨rfl, g1, decide_eq_false (fun x => by have := wi.1 x; omega)⟩
    · by_cases g2 : c / d < n
      · exact .inr (.inl ⟨rfl, by omega, g2, decide_eq_false (fun x => by have := wi.1 x; omega)⟩)
      · exact .inr (.inr ⟨rfl, by omega, by omega, decide_eq_true (wi.2 ⟨by omega, by omega⟩)⟩)
  · refine ⟨0, 0, ⟨0, 0, 5⟩, fun W => whole_none a b c d _ _ W h (Lib.hid rfl) (Lib.hid rfl) (by omega), .inl ⟨by simp, decide_eq_false (fun x => by have := wi.1 x; omega)⟩⟩

theorem has_int {a b c d n : Int} (h : vrP a b c d) (hn : Rt.vldP n 1) (W : World) :
    Calls Tryd.prog 55 #[.agg #[.int .i64 a, .int .i64 b, .int .i64 c, .int .i64 d], .agg #[.int .i64 n, .int .i64 1]] W fun e w' => e = .returned (.bool (decide (a ≤ n * b ∧ n * d ≤ c))) ∧ Below W.heap.size W w' := by
  refine (has_ok a b c d n 1 W h hn).mono fun _ _ ⟨he, hb⟩ => ⟨?_, hb⟩
  rw [he]
  have e : (!decide (n * b < a * 1) && !decide (c * 1 < n * d)) = decide (a ≤ n * b ∧ n * d ≤ c) := by
    rw [Bool.eq_iff_iff, Int.mul_one, Int.mul_one]
    simp
  rw [e]

theorem exactBetween_true (a b c d e f g h i j k l n : Int) (_ : I64 a) (_ : I64 b) (_ : I64 c) (_ : I64 d) (_ : I64 e) (_ : I64 f) (_ : I64 g) (_ : I64 h) (_ : I64 i) (_ : I64 j) (_ : I64 k) (_ : I64 l) (hn : I64 n) (w : World) (hT : Tab w.heap.size w) :
    Calls Tryd.prog 16 #[.agg #[.int .i64 a, .int .i64 b, .int .i64 c, .int .i64 d], .agg #[.int .i64 e, .int .i64 f, .int .i64 g, .int .i64 h], .agg #[.int .i64 i, .int .i64 j], .agg #[.int .i64 k, .int .i64 l], .int .i64 n] w fun e w' => e = .returned (.bool true) ∧ Below w.heap.size w w' := by
  replace hT := Lib.hid hT
  by_cases hx : vrP a b c d
  case neg => exact between_out1 a b c d e f g h i j k l n (Lib.hid hx) w hT
  by_cases hy : vrP e f g h
  case neg => exact between_out2 a b c d e f g h i j k l n (Lib.hid hx) (Lib.hid hy) w hT
  obtain ⟨t, ht, _, kt⟩ := valid_both i j
  obtain ⟨u, hu, _, ku⟩ := valid_both k l
  have KW := wrong_any i j k l t u (Lib.hid kt) (Lib.hid ku)
  by_cases hw : Rt.vldP i j ∧ Rt.vldP k l
  case neg =>
    have : (!t || !u) = true := by
      cases t <;> cases u <;> simp_all
    rw [this] at KW
    exact between_out3 a b c d e f g h i j k l n (Lib.hid hx) (Lib.hid hy) (Lib.hid KW) w hT
  obtain ⟨hi, hk⟩ := hw
  rw [ht.1 hi, hu.1 hk] at KW
  replace KW := Lib.hid KW
  clear kt ku ht hu
  have WF := whole_form (n := n) hx
  have HI := fun (q : Rt.vldP n 1) => has_int (n := n) hx q
  have hx0 := Lib.hid hx
  have hy0 := Lib.hid hy
  have hi0 := hi
  obtain ⟨L, H, hL, hH, hLH, rfl, rfl, rfl, rfl⟩ := vr_rat hx
  obtain ⟨L', H', hL', hH', hLH', rfl, rfl, rfl, rfl⟩ := vr_rat hy
  obtain ⟨A, hA, rfl, rfl⟩ := Rt.vld_rat hi
  obtain ⟨B, hB, rfl, rfl⟩ := Rt.vld_rat hk
  have HX := Lib.hid (has_rat hL hH hLH hA)
  have HY := Lib.hid (has_rat hL' hH' hLH' hA)
  obtain ⟨m1, m2, m3, m4, ME, HM, HMA, hme⟩ := meet_form hL hH hLH hL' hH' hLH' hA
  have c7 := Lib.hid (c7_of ME _ _ hme)
  have HH := Lib.hid (hull_rat hL hH hLH hL' hH' hLH')
  have HHA : Hid ((Rt.inR L H A || Rt.inR L' H' A) = true → ∀ W : World, Calls Tryd.prog 55 #[.agg #[.int .i64 (Rt.rmn L L').num, .int .i64 ((Rt.rmn L L').den : Int), .int .i64 (Rt.rmx H H').num, .int .i64 ((Rt.rmx H H').den : Int)], .agg #[.int .i64 A.num, .int .i64 (A.den : Int)]] W fun e w' => e = .returned (.bool true) ∧ Below W.heap.size W w') :=
    Lib.hid fun q W => by
      rw [← Rt.in_hull q]
      exact has_rat (Rt.rmn_fits hL hL') (Rt.rmx_fits hH hH') (Rat.le_trans Rt.rmn_le.1 (Rat.le_trans hLH Rt.le_rmx.1)) hA W
  obtain ⟨s1, s2, s3, s4, SE, hS, hS0⟩ := spR_form (L + L') (H + H')
  have HS := Lib.hid fun W => sum_with L.num L.den H.num H.den L'.num L'.den H'.num H'.den s1 s2 s3 s4 SE.e W hx hy (Lib.hid fun W => by
    have q := spadd_rat hL hL' hH hH' W
    rw [hS] at q
    exact q)
  have HA := Lib.hid (cadd hA hB rfl)
  have HYB := Lib.hid (has_rat hL' hH' hLH' hB)
  have HSX : Hid (SE.e = 0 → (Rt.fit (A + B)).e = 0 → Rt.inR L H A = true → Rt.inR L' H' B = true → ∀ W : World, Calls Tryd.prog 55 #[.agg #[.int .i64 s1, .int .i64 s2, .int .i64 s3, .int .i64 s4], .agg #[.int .i64 (Rt.fit (A + B)).n, .int .i64 (Rt.fit (A + B)).d]] W fun e w' => e = .returned (.bool true) ∧ Below W.heap.size W w') :=
    Lib.hid fun q1 q2 q3 q4 W => by
      obtain ⟨u1, u2, rfl, rfl, rfl, rfl⟩ := hS0 q1
      have q5 := (Rt.fit_ok q2).1
      rw [Rt.fit_yes q5, ← Rt.in_sum q3 q4]
      exact has_rat (Rt.rmn_fits u1 u2) (Rt.rmx_fits u1 u2) Rt.rmn_le_rmx q5 W
  have c11 := Lib.hid (c11_of SE (Rt.fit (A + B)) (Rt.inR L H A) (Rt.inR L' H' B))
  obtain ⟨q1, q2, q3, q4, PE, hP, hP0⟩ := spR_form (L * B) (H * B)
  have HP := Lib.hid fun W => scl_with L.num L.den H.num H.den B.num B.den q1 q2 q3 q4 PE.e W hx hk (Lib.hid fun W => by
    have q := spmul_rat hL hB hH hB W
    rw [hP] at q
    exact q)
  have HQ := Lib.hid (cmul hA hB rfl)
  have HPY : Hid (PE.e = 0 → (Rt.fit (A * B)).e = 0 → Rt.inR L H A = true → ∀ W : World, Calls Tryd.prog 55 #[.agg #[.int .i64 q1, .int .i64 q2, .int .i64 q3, .int .i64 q4], .agg #[.int .i64 (Rt.fit (A * B)).n, .int .i64 (Rt.fit (A * B)).d]] W fun e w' => e = .returned (.bool true) ∧ Below W.heap.size W w') :=
    Lib.hid fun r1 r2 r3 W => by
      obtain ⟨u1, u2, rfl, rfl, rfl, rfl⟩ := hP0 r1
      have q5 := (Rt.fit_ok r2).1
      rw [Rt.fit_yes q5, ← Rt.in_scl (B := B) r3]
      exact has_rat (Rt.rmn_fits u1 u2) (Rt.rmx_fits u1 u2) Rt.rmn_le_rmx q5 W
  have c15 := Lib.hid (c15_of PE (Rt.fit (A * B)) (Rt.inR L H A))
  obtain ⟨w1, w2, WE, HW, c19⟩ := WF
  have mk1 : Rt.mk n 1 = if n.natAbs ≤ 2147483647 then ⟨n, 1, 0⟩ else ⟨0, 0, 3⟩ := by rw [Rt.mk_eq (by decide), Rt.fit_n]
  obtain ⟨n1, n2⟩ := hn
  by_cases far : n < -2147483647 ∨ 2147483647 < n
  · rw [if_neg (by omega)] at mk1
    have HK := Lib.hid fun W => make_any n 1 n1 n2 (by decide) (by decide) W
    rw [mk1] at HK
    exact between_far _ _ _ _ _ _ _ _ _ _ _ _ n _ _ _ _ _ _ _ _ _ _ _ _ _ _ _ _ _ _ ME SE PE WE _ _ _ _ _ _ hx0 hy0 KW HX HY (Lib.hid HM) HH (Lib.hid HMA) HHA c7 HS HA HYB HSX c11 HP HQ HPY c15 (Lib.hid HW) HK (Lib.hid fun W => part_far A.num A.den n hi0 far W) w hT
  · rw [if_pos (by omega)] at mk1
    have HK := Lib.hid fun W => make_any n 1 n1 n2 (by decide) (by decide) W
    rw [mk1] at HK
    have vn : Rt.vldP n 1 := ⟨by decide, by decide, by omega, by omega, by simp⟩
    have ⟨i1, i2, i3, i4, _⟩ := hi0
    have pb := mul31 (x := n) (y := A.num) (by omega) (by omega)
    have HZ := Lib.hid fun W => part_ok A.num A.den n hi0 (by omega) (by omega) W
    have fc := Rt.fl_cl (N := n * A.num) (b := (A.den : Int)) (by omega)
    have zb : -4611686018427387904 ≤ n * A.num / (A.den : Int) ∧ n * A.num / (A.den : Int) ≤ 4611686018427387904 := by
      constructor
      · exact (Rt.le_fl (by omega)).2 (by omega)
      · have := Int.ediv_lt_of_lt_mul (a := n * A.num) (b := 4611686018427387905) (c := (A.den : Int)) (by omega) (by omega)
        omega
    have HR := Lib.hid fun W => mul_ok A.num A.den n 1 hi0 vn W
    have den0 : (A.den : Int) * 1 ≠ 0 := by omega
    rw [Rt.mk_eq den0] at HR
    by_cases gr : Rt.Fits (Rat.divInt (A.num * n) ((A.den : Int) * 1))
    · rw [Rt.fit_yes gr] at HR
      have cr := Rt.divInt_cross (n := A.num * n) den0
      have rd := Rt.den_pos (Rat.divInt (A.num * n) ((A.den : Int) * 1))
      generalize Rat.divInt (A.num * n) ((A.den : Int) * 1) = R at *
      have cr2 : R.num * (A.den : Int) = n * A.num * (R.den : Int) := by rw [Int.mul_one, Int.mul_comm A.num n] at cr; exact cr
      have HF := Lib.hid fun W => floor_ok R.num R.den gr.vld W
      have HC := Lib.hid fun W => ceil_ok R.num R.den gr.vld W
      rw [Rt.fl_cross (by omega) rd cr2] at HF
      rw [Rt.cl_cross (by omega) rd cr2] at HC
      exact between_nr0 _ _ _ _ _ _ _ _ _ _ _ _ n _ _ _ _ _ _ _ _ _ _ _ _ _ _ _ _ _ _ _ _ _ _ ME SE PE WE _ _ _ _ _ _ _ hx0 hy0 KW HX HY (Lib.hid HM) HH (Lib.hid HMA) HHA c7 HS HA HYB HSX c11 HP HQ HPY c15 (Lib.hid HW) HK (Lib.hid (HI vn)) (Lib.hid c19) HZ zb (Lib.hid fc) HR HF HC w hT
    · rw [Rt.fit_no gr] at HR
      exact between_nr3 _ _ _ _ _ _ _ _ _ _ _ _ n _ _ _ _ _ _ _ _ _ _ _ _ _ _ _ _ _ _ _ _ ME SE PE WE _ _ _ _ _ _ _ hx0 hy0 KW HX HY (Lib.hid HM) HH (Lib.hid HMA) HHA c7 HS HA HYB HSX c11 HP HQ HPY c15 (Lib.hid HW) HK (Lib.hid (HI vn)) (Lib.hid c19) HZ zb (Lib.hid fc) HR w hT
end Go.Proofs.YtpbomeoonknifaaDoor
