/- The law ExactField, paths of it. -/
import Derived.Test.YtpbomeoonknifaaDoorSz
namespace Go.Proofs.YtpbomeoonknifaaDoor
open Go.RowKit Go.Shelf

set_option maxRecDepth 100000 in
set_option maxHeartbeats 4000000 in
theorem field_000103 (a1 a2 b1 b2 c1 c2 x1 x2 y1 y2 z1 z2 u1 u2 : Int) (X U : Rt.Num) (KW : Hid (∀ W : World, Calls Tryd.prog 31 #[.agg #[.int .i64 a1, .int .i64 a2], .agg #[.int .i64 b1, .int .i64 b2]] W fun e w' => e = .returned (.bool false) ∧ Below W.heap.size W w')) (KV : Hid (∀ W : World, Calls Tryd.prog 22 #[.agg #[.int .i64 c1, .int .i64 c2]] W fun e w' => e = .returned (.bool true) ∧ Below W.heap.size W w')) (H1 : Hid (∀ W : World, Calls Tryd.prog 25 #[.agg #[.int .i64 a1, .int .i64 a2], .agg #[.int .i64 b1, .int .i64 b2]] W fun e w' => e = .returned (.tuple #[.agg #[.int .i64 x1, .int .i64 x2], .int .i64 0]) ∧ Below W.heap.size W w')) (H2 : Hid (∀ W : World, Calls Tryd.prog 25 #[.agg #[.int .i64 b1, .int .i64 b2], .agg #[.int .i64 a1, .int .i64 a2]] W fun e w' => e = .returned (.tuple #[.agg #[.int .i64 x1, .int .i64 x2], .int .i64 0]) ∧ Below W.heap.size W w')) (H3 : Hid (∀ W : World, Calls Tryd.prog 25 #[.agg #[.int .i64 b1, .int .i64 b2], .agg #[.int .i64 c1, .int .i64 c2]] W fun e w' => e = .returned (.tuple #[.agg #[.int .i64 y1, .int .i64 y2], .int .i64 0]) ∧ Below W.heap.size W w')) (S1 : Hid (∀ W : World, Calls Tryd.prog 26 #[.agg #[.int .i64 x1, .int .i64 x2], .agg #[.int .i64 b1, .int .i64 b2]] W fun e w' => e = .returned (.tuple #[.agg #[.int .i64 a1, .int .i64 a2], .int .i64 0]) ∧ Below W.heap.size W w')) (X1 : Hid (∀ W : World, Calls Tryd.prog 25 #[.agg #[.int .i64 x1, .int .i64 x2], .agg #[.int .i64 c1, .int .i64 c2]] W fun e w' => e = .returned (.tuple #[.agg #[.int .i64 X.n, .int .i64 X.d], .int .i64 X.e]) ∧ Below W.heap.size W w')) (X2 : Hid (∀ W : World, Calls Tryd.prog 25 #[.agg #[.int .i64 a1, .int .i64 a2], .agg #[.int .i64 y1, .int .i64 y2]] W fun e w' => e = .returned (.tuple #[.agg #[.int .i64 X.n, .int .i64 X.d], .int .i64 X.e]) ∧ Below W.heap.size W w')) (M1 : Hid (∀ W : World, Calls Tryd.prog 27 #[.agg #[.int .i64 a1, .int .i64 a2], .agg #[.int .i64 b1, .int .i64 b2]] W fun e w' => e = .returned (.tuple #[.agg #[.int .i64 z1, .int .i64 z2], .int .i64 0]) ∧ Below W.heap.size W w')) (M2 : Hid (∀ W : World, Calls Tryd.prog 27 #[.agg #[.int .i64 b1, .int .i64 b2], .agg #[.int .i64 a1, .int .i64 a2]] W fun e w' => e = .returned (.tuple #[.agg #[.int .i64 z1, .int .i64 z2], .int .i64 0]) ∧ Below W.heap.size W w')) (hz : b1 ≠ 0) (D1 : Hid (∀ W : World, Calls Tryd.prog 28 #[.agg #[.int .i64 z1, .int .i64 z2], .agg #[.int .i64 b1, .int .i64 b2]] W fun e w' => e = .returned (.tuple #[.agg #[.int .i64 a1, .int .i64 a2], .int .i64 0]) ∧ Below W.heap.size W w')) (M3 : Hid (∀ W : World, Calls Tryd.prog 27 #[.agg #[.int .i64 b1, .int .i64 b2], .agg #[.int .i64 c1, .int .i64 c2]] W fun e w' => e = .returned (.tuple #[.agg #[.int .i64 u1, .int .i64 u2], .int .i64 0]) ∧ Below W.heap.size W w')) (U1 : Hid (∀ W : World, Calls Tryd.prog 27 #[.agg #[.int .i64 z1, .int .i64 z2], .agg #[.int .i64 c1, .int .i64 c2]] W fun e w' => e = .returned (.tuple #[.agg #[.int .i64 U.n, .int .i64 U.d], .int .i64 U.e]) ∧ Below W.heap.size W w')) (U2 : Hid (∀ W : World, Calls Tryd.prog 27 #[.agg #[.int .i64 a1, .int .i64 a2], .agg #[.int .i64 u1, .int .i64 u2]] W fun e w' => e = .returned (.tuple #[.agg #[.int .i64 U.n, .int .i64 U.d], .int .i64 U.e]) ∧ Below W.heap.size W w')) (M4 : Hid (∀ W : World, Calls Tryd.prog 27 #[.agg #[.int .i64 a1, .int .i64 a2], .agg #[.int .i64 c1, .int .i64 c2]] W fun e w' => e = .returned (.tuple #[.agg #[.int .i64 0, .int .i64 0], .int .i64 3]) ∧ Below W.heap.size W w')) (w : World) (hT : Hid (Tab w.heap.size w)) :
    Calls Tryd.prog 11 #[.agg #[.int .i64 a1, .int .i64 a2], .agg #[.int .i64 b1, .int .i64 b2], .agg #[.int .i64 c1, .int .i64 c2]] w fun e w' => e = .returned (.bool true) ∧ Below w.heap.size w w' := by
  go_enter Tryd.func11, Tryd.ntmps11
  go_wp2_with fail
  refine (KW.out _).mono ?_
  rintro e W1 ⟨rfl, hb1⟩
  have k1 : W1.cell? ⟨w.heap.size, 0, none⟩ = some (.int .i64 a1) := kept1 (by simp [go_sem]) hb1
  have k2 : W1.cell? ⟨w.heap.size, 1, none⟩ = some (.int .i64 a2) := kept1 (by simp [go_sem]) hb1
  have k3 : W1.cell? ⟨w.heap.size + 1, 0, none⟩ = some (.int .i64 b1) := kept1 (by simp [go_sem]) hb1
  have k4 : W1.cell? ⟨w.heap.size + 1, 1, none⟩ = some (.int .i64 b2) := kept1 (by simp [go_sem]) hb1
  have k5 : W1.cell? ⟨w.heap.size + 1 + 1, 0, none⟩ = some (.int .i64 c1) := kept1 (by simp [go_sem]) hb1
  have k6 : W1.cell? ⟨w.heap.size + 1 + 1, 1, none⟩ = some (.int .i64 c2) := kept1 (by simp [go_sem]) hb1
  have lk1 : w.heap.size < W1.heap.size := block_lt_of_cell k1
  have lk3 : w.heap.size + 1 < W1.heap.size := block_lt_of_cell k3
  have lk5 : w.heap.size + 1 + 1 < W1.heap.size := block_lt_of_cell k5
  have hv1 : Below w.heap.size w W1 := bstep3 (Below.refl _ _) hb1
  clear hb1  
  go_wp2_with fail
  refine (KV.out _).mono ?_
  rintro e W2 ⟨rfl, hb2⟩
  have k7 : W2.cell? ⟨w.heap.size, 0, none⟩ = some (.int .i64 a1) := kept1 k1 hb2
  have k8 : W2.cell? ⟨w.heap.size, 1, none⟩ = some (.int .i64 a2) := kept1 k2 hb2
  have k9 : W2.cell? ⟨w.heap.size + 1, 0, none⟩ = some (.int .i64 b1) := kept1 k3 hb2
  have k10 : W2.cell? ⟨w.heap.size + 1, 1, none⟩ = some (.int .i64 b2) := kept1 k4 hb2
  have k11 : W2.cell? ⟨w.heap.size + 1 + 1, 0, none⟩ = some (.int .i64 c1) := kept1 k5 hb2
  have k12 : W2.cell? ⟨w.heap.size + 1 + 1, 1, none⟩ = some (.int .i64 c2) := kept1 k6 hb2
  have lk7 : w.heap.size < W2.heap.size := block_lt_of_cell k7
  have lk9 : w.heap.size + 1 < W2.heap.size := block_lt_of_cell k9
  have lk11 : w.heap.size + 1 + 1 < W2.heap.size := block_lt_of_cell k11
  have hv2 : Below w.heap.size w W2 := bstep0 hv1 hb2
  clear hb2 hv1 k1 k2 k3 k4 k5 k6 lk1 lk3 lk5
  go_wp2_with fail
  refine (H1.out _).mono ?_
  rintro e W3 ⟨rfl, hb3⟩
  have k13 : W3.cell? ⟨w.heap.size, 0, none⟩ = some (.int .i64 a1) := kept1 k7 hb3
  have k14 : W3.cell? ⟨w.heap.size, 1, none⟩ = some (.int .i64 a2) := kept1 k8 hb3
  have k15 : W3.cell? ⟨w.heap.size + 1, 0, none⟩ = some (.int .i64 b1) := kept1 k9 hb3
  have k16 : W3.cell? ⟨w.heap.size + 1, 1, none⟩ = some (.int .i64 b2) := kept1 k10 hb3
  have k17 : W3.cell? ⟨w.heap.size + 1 + 1, 0, none⟩ = some (.int .i64 c1) := kept1 k11 hb3
  have k18 : W3.cell? ⟨w.heap.size + 1 + 1, 1, none⟩ = some (.int .i64 c2) := kept1 k12 hb3
  have lk13 : w.heap.size < W3.heap.size := block_lt_of_cell k13
  have lk15 : w.heap.size + 1 < W3.heap.size := block_lt_of_cell k15
  have lk17 : w.heap.size + 1 + 1 < W3.heap.size := block_lt_of_cell k17
  have hv3 : Below w.heap.size w W3 := bstep0 hv2 hb3
  clear hb3 hv2 k7 k8 k9 k10 k11 k12 lk7 lk9 lk11
  go_wp2_with fail
  refine (H2.out _).mono ?_
  rintro e W4 ⟨rfl, hb4⟩
  have k19 : W4.cell? ⟨w.heap.size, 0, none⟩ = some (.int .i64 a1) := kept_a1 k13 hb4
  have k20 : W4.cell? ⟨w.heap.size, 1, none⟩ = some (.int .i64 a2) := kept_a1 k14 hb4
  have k21 : W4.cell? ⟨w.heap.size + 1, 0, none⟩ = some (.int .i64 b1) := kept_a1 k15 hb4
  have k22 : W4.cell? ⟨w.heap.size + 1, 1, none⟩ = some (.int .i64 b2) := kept_a1 k16 hb4
  have k23 : W4.cell? ⟨w.heap.size + 1 + 1, 0, none⟩ = some (.int .i64 c1) := kept_a1 k17 hb4
  have k24 : W4.cell? ⟨w.heap.size + 1 + 1, 1, none⟩ = some (.int .i64 c2) := kept_a1 k18 hb4
  have k25 : W4.cell? ⟨W3.heap.size, 0, none⟩ = some (.int .i64 x1) := kept1 (by simp [go_sem]) hb4
  have k26 : W4.cell? ⟨W3.heap.size, 1, none⟩ = some (.int .i64 x2) := kept1 (by simp [go_sem]) hb4
  have lk19 : w.heap.size < W4.heap.size := block_lt_of_cell k19
  have lk21 : w.heap.size + 1 < W4.heap.size := block_lt_of_cell k21
  have lk23 : w.heap.size + 1 + 1 < W4.heap.size := block_lt_of_cell k23
  have lk25 : W3.heap.size < W4.heap.size := block_lt_of_cell k25
  have hv4 : Below w.heap.size w W4 := bstep1 hv3 hb4
  clear hb4 hv3 k13 k14 k15 k16 k17 k18 lk13 lk15 lk17
  go_wp2_with fail
  refine (H3.out _).mono ?_
  rintro e W5 ⟨rfl, hb5⟩
  have k27 : W5.cell? ⟨w.heap.size, 0, none⟩ = some (.int .i64 a1) := kept_a1 k19 hb5
  have k28 : W5.cell? ⟨w.heap.size, 1, none⟩ = some (.int .i64 a2) := kept_a1 k20 hb5
  have k29 : W5.cell? ⟨w.heap.size + 1, 0, none⟩ = some (.int .i64 b1) := kept_a1 k21 hb5
  have k30 : W5.cell? ⟨w.heap.size + 1, 1, none⟩ = some (.int .i64 b2) := kept_a1 k22 hb5
  have k31 : W5.cell? ⟨w.heap.size + 1 + 1, 0, none⟩ = some (.int .i64 c1) := kept_a1 k23 hb5
  have k32 : W5.cell? ⟨w.heap.size + 1 + 1, 1, none⟩ = some (.int .i64 c2) := kept_a1 k24 hb5
  have k33 : W5.cell? ⟨W3.heap.size, 0, none⟩ = some (.int .i64 x1) := kept_a1 k25 hb5
  have k34 : W5.cell? ⟨W3.heap.size, 1, none⟩ = some (.int .i64 x2) := kept_a1 k26 hb5
  have k35 : W5.cell? ⟨W4.heap.size, 0, none⟩ = some (.int .i64 x1) := kept1 (by simp [go_sem]) hb5
  have k36 : W5.cell? ⟨W4.heap.size, 1, none⟩ = some (.int .i64 x2) := kept1 (by simp [go_sem]) hb5
  have lk27 : w.heap.size < W5.heap.size := block_lt_of_cell k27
  have lk29 : w.heap.size + 1 < W5.heap.size := block_lt_of_cell k29
  have lk31 : w.heap.size + 1 + 1 < W5.heap.size := block_lt_of_cell k31
  have lk33 : W3.heap.size < W5.heap.size := block_lt_of_cell k33
  have lk35 : W4.heap.size < W5.heap.size := block_lt_of_cell k35
  have hv5 : Below w.heap.size w W5 := bstep1 hv4 hb5
  clear hb5 hv4 k19 k20 k21 k22 k23 k24 k25 k26 lk19 lk21 lk23 lk25
  go_wp2_with fail
  refine (S1.out _).mono ?_
  rintro e W6 ⟨rfl, hb6⟩
  have k37 : W6.cell? ⟨w.heap.size, 0, none⟩ = some (.int .i64 a1) := kept_a1 k27 hb6
  have k38 : W6.cell? ⟨w.heap.size, 1, none⟩ = some (.int .i64 a2) := kept_a1 k28 hb6
  have k39 : W6.cell? ⟨w.heap.size + 1, 0, none⟩ = some (.int .i64 b1) := kept_a1 k29 hb6
  have k40 : W6.cell? ⟨w.heap.size + 1, 1, none⟩ = some (.int .i64 b2) := kept_a1 k30 hb6
  have k41 : W6.cell? ⟨w.heap.size + 1 + 1, 0, none⟩ = some (.int .i64 c1) := kept_a1 k31 hb6
  have k42 : W6.cell? ⟨w.heap.size + 1 + 1, 1, none⟩ = some (.int .i64 c2) := kept_a1 k32 hb6
  have k43 : W6.cell? ⟨W3.heap.size, 0, none⟩ = some (.int .i64 x1) := kept_a1 k33 hb6
  have k44 : W6.cell? ⟨W3.heap.size, 1, none⟩ = some (.int .i64 x2) := kept_a1 k34 hb6
  have k45 : W6.cell? ⟨W4.heap.size, 0, none⟩ = some (.int .i64 x1) := kept_a1 k35 hb6
  have k46 : W6.cell? ⟨W4.heap.size, 1, none⟩ = some (.int .i64 x2) := kept_a1 k36 hb6
  have k47 : W6.cell? ⟨W5.heap.size, 0, none⟩ = some (.int .i64 y1) := kept1 (by simp [go_sem]) hb6
  have k48 : W6.cell? ⟨W5.heap.size, 1, none⟩ = some (.int .i64 y2) := kept1 (by simp [go_sem]) hb6
  have lk37 : w.heap.size < W6.heap.size := block_lt_of_cell k37
  have lk39 : w.heap.size + 1 < W6.heap.size := block_lt_of_cell k39
  have lk41 : w.heap.size + 1 + 1 < W6.heap.size := block_lt_of_cell k41
  have lk43 : W3.heap.size < W6.heap.size := block_lt_of_cell k43
  have lk45 : W4.heap.size < W6.heap.size := block_lt_of_cell k45
  have lk47 : W5.heap.size < W6.heap.size := block_lt_of_cell k47
  have hv6 : Below w.heap.size w W6 := bstep1 hv5 hb6
  clear hb6 hv5 k27 k28 k29 k30 k31 k32 k33 k34 k35 k36 lk27 lk29 lk31 lk33 lk35
  clear k45 k46 lk45
  go_wp2_with fail
  refine (X1.out _).mono ?_
  rintro e W7 ⟨rfl, hb7⟩
  have k49 : W7.cell? ⟨w.heap.size, 0, none⟩ = some (.int .i64 a1) := kept_a1 k37 hb7
  have k50 : W7.cell? ⟨w.heap.size, 1, none⟩ = some (.int .i64 a2) := kept_a1 k38 hb7
  have k51 : W7.cell? ⟨w.heap.size + 1, 0, none⟩ = some (.int .i64 b1) := kept_a1 k39 hb7
  have k52 : W7.cell? ⟨w.heap.size + 1, 1, none⟩ = some (.int .i64 b2) := kept_a1 k40 hb7
  have k53 : W7.cell? ⟨w.heap.size + 1 + 1, 0, none⟩ = some (.int .i64 c1) := kept_a1 k41 hb7
  have k54 : W7.cell? ⟨w.heap.size + 1 + 1, 1, none⟩ = some (.int .i64 c2) := kept_a1 k42 hb7
  have k55 : W7.cell? ⟨W3.heap.size, 0, none⟩ = some (.int .i64 x1) := kept_a1 k43 hb7
  have k56 : W7.cell? ⟨W3.heap.size, 1, none⟩ = some (.int .i64 x2) := kept_a1 k44 hb7
  have k57 : W7.cell? ⟨W5.heap.size, 0, none⟩ = some (.int .i64 y1) := kept_a1 k47 hb7
  have k58 : W7.cell? ⟨W5.heap.size, 1, none⟩ = some (.int .i64 y2) := kept_a1 k48 hb7
  have lk49 : w.heap.size < W7.heap.size := block_lt_of_cell k49
  have lk51 : w.heap.size + 1 < W7.heap.size := block_lt_of_cell k51
  have lk53 : w.heap.size + 1 + 1 < W7.heap.size := block_lt_of_cell k53
  have lk55 : W3.heap.size < W7.heap.size := block_lt_of_cell k55
  have lk57 : W5.heap.size < W7.heap.size := block_lt_of_cell k57
  have hv7 : Below w.heap.size w W7 := bstep1 hv6 hb7
  clear hb7 hv6 k37 k38 k39 k40 k41 k42 k43 k44 k47 k48 lk37 lk39 lk41 lk43 lk47
  go_wp2_with fail
  refine (X2.out _).mono ?_
  rintro e W8 ⟨rfl, hb8⟩
  have k59 : W8.cell? ⟨w.heap.size, 0, none⟩ = some (.int .i64 a1) := kept_a1 k49 hb8
  have k60 : W8.cell? ⟨w.heap.size, 1, none⟩ = some (.int .i64 a2) := kept_a1 k50 hb8
  have k61 : W8.cell? ⟨w.heap.size + 1, 0, none⟩ = some (.int .i64 b1) := kept_a1 k51 hb8
  have k62 : W8.cell? ⟨w.heap.size + 1, 1, none⟩ = some (.int .i64 b2) := kept_a1 k52 hb8
  have k63 : W8.cell? ⟨w.heap.size + 1 + 1, 0, none⟩ = some (.int .i64 c1) := kept_a1 k53 hb8
  have k64 : W8.cell? ⟨w.heap.size + 1 + 1, 1, none⟩ = some (.int .i64 c2) := kept_a1 k54 hb8
  have k65 : W8.cell? ⟨W3.heap.size, 0, none⟩ = some (.int .i64 x1) := kept_a1 k55 hb8
  have k66 : W8.cell? ⟨W3.heap.size, 1, none⟩ = some (.int .i64 x2) := kept_a1 k56 hb8
  have k67 : W8.cell? ⟨W5.heap.size, 0, none⟩ = some (.int .i64 y1) := kept_a1 k57 hb8
  have k68 : W8.cell? ⟨W5.heap.size, 1, none⟩ = some (.int .i64 y2) := kept_a1 k58 hb8
  have k69 : W8.cell? ⟨W7.heap.size, 0, none⟩ = some (.int .i64 X.n) := kept1 (by simp [go_sem]) hb8
  have k70 : W8.cell? ⟨W7.heap.size, 1, none⟩ = some (.int .i64 X.d) := kept1 (by simp [go_sem]) hb8
  have lk59 : w.heap.size < W8.heap.size := block_lt_of_cell k59
  have lk61 : w.heap.size + 1 < W8.heap.size := block_lt_of_cell k61
  have lk63 : w.heap.size + 1 + 1 < W8.heap.size := block_lt_of_cell k63
  have lk65 : W3.heap.size < W8.heap.size := block_lt_of_cell k65
  have lk67 : W5.heap.size < W8.heap.size := block_lt_of_cell k67
  have lk69 : W7.heap.size < W8.heap.size := block_lt_of_cell k69
  have hv8 : Below w.heap.size w W8 := bstep1 hv7 hb8
  clear hb8 hv7 k49 k50 k51 k52 k53 k54 k55 k56 k57 k58 lk49 lk51 lk53 lk55 lk57
  go_wp2_with fail
  refine (M1.out _).mono ?_
  rintro e W9 ⟨rfl, hb9⟩
  have k71 : W9.cell? ⟨w.heap.size, 0, none⟩ = some (.int .i64 a1) := kept_a1 k59 hb9
  have k72 : W9.cell? ⟨w.heap.size, 1, none⟩ = some (.int .i64 a2) := kept_a1 k60 hb9
  have k73 : W9.cell? ⟨w.heap.size + 1, 0, none⟩ = some (.int .i64 b1) := kept_a1 k61 hb9
  have k74 : W9.cell? ⟨w.heap.size + 1, 1, none⟩ = some (.int .i64 b2) := kept_a1 k62 hb9
  have k75 : W9.cell? ⟨w.heap.size + 1 + 1, 0, none⟩ = some (.int .i64 c1) := kept_a1 k63 hb9
  have k76 : W9.cell? ⟨w.heap.size + 1 + 1, 1, none⟩ = some (.int .i64 c2) := kept_a1 k64 hb9
  have k77 : W9.cell? ⟨W3.heap.size, 0, none⟩ = some (.int .i64 x1) := kept_a1 k65 hb9
  have k78 : W9.cell? ⟨W3.heap.size, 1, none⟩ = some (.int .i64 x2) := kept_a1 k66 hb9
  have k79 : W9.cell? ⟨W5.heap.size, 0, none⟩ = some (.int .i64 y1) := kept_a1 k67 hb9
  have k80 : W9.cell? ⟨W5.heap.size, 1, none⟩ = some (.int .i64 y2) := kept_a1 k68 hb9
  have k81 : W9.cell? ⟨W7.heap.size, 0, none⟩ = some (.int .i64 X.n) := kept_a1 k69 hb9
  have k82 : W9.cell? ⟨W7.heap.size, 1, none⟩ = some (.int .i64 X.d) := kept_a1 k70 hb9
  have lk71 : w.heap.size < W9.heap.size := block_lt_of_cell k71
  have lk73 : w.heap.size + 1 < W9.heap.size := block_lt_of_cell k73
  have lk75 : w.heap.size + 1 + 1 < W9.heap.size := block_lt_of_cell k75
  have lk77 : W3.heap.size < W9.heap.size := block_lt_of_cell k77
  have lk79 : W5.heap.size < W9.heap.size := block_lt_of_cell k79
  have lk81 : W7.heap.size < W9.heap.size := block_lt_of_cell k81
  have hv9 : Below w.heap.size w W9 := bstep1 hv8 hb9
  clear hb9 hv8 k59 k60 k61 k62 k63 k64 k65 k66 k67 k68 k69 k70 lk59 lk61 lk63 lk65 lk67 lk69
  clear k81 k82 lk81
  go_wp2_with fail
  refine (M2.out _).mono ?_
  rintro e W10 ⟨rfl, hb10⟩
  have k83 : W10.cell? ⟨w.heap.size, 0, none⟩ = some (.int .i64 a1) := kept_a1 k71 hb10
  have k84 : W10.cell? ⟨w.heap.size, 1, none⟩ = some (.int .i64 a2) := kept_a1 k72 hb10
  have k85 : W10.cell? ⟨w.heap.size + 1, 0, none⟩ = some (.int .i64 b1) := kept_a1 k73 hb10
  have k86 : W10.cell? ⟨w.heap.size + 1, 1, none⟩ = some (.int .i64 b2) := kept_a1 k74 hb10
  have k87 : W10.cell? ⟨w.heap.size + 1 + 1, 0, none⟩ = some (.int .i64 c1) := kept_a1 k75 hb10
  have k88 : W10.cell? ⟨w.heap.size + 1 + 1, 1, none⟩ = some (.int .i64 c2) := kept_a1 k76 hb10
  have k89 : W10.cell? ⟨W3.heap.size, 0, none⟩ = some (.int .i64 x1) := kept_a1 k77 hb10
  have k90 : W10.cell? ⟨W3.heap.size, 1, none⟩ = some (.int .i64 x2) := kept_a1 k78 hb10
  have k91 : W10.cell? ⟨W5.heap.size, 0, none⟩ = some (.int .i64 y1) := kept_a1 k79 hb10
  have k92 : W10.cell? ⟨W5.heap.size, 1, none⟩ = some (.int .i64 y2) := kept_a1 k80 hb10
  have k93 : W10.cell? ⟨W9.heap.size, 0, none⟩ = some (.int .i64 z1) := kept1 (by simp [go_sem]) hb10
  have k94 : W10.cell? ⟨W9.heap.size, 1, none⟩ = some (.int .i64 z2) := kept1 (by simp [go_sem]) hb10
  have lk83 : w.heap.size < W10.heap.size := block_lt_of_cell k83
  have lk85 : w.heap.size + 1 < W10.heap.size := block_lt_of_cell k85
  have lk87 : w.heap.size + 1 + 1 < W10.heap.size := block_lt_of_cell k87
  have lk89 : W3.heap.size < W10.heap.size := block_lt_of_cell k89
  have lk91 : W5.heap.size < W10.heap.size := block_lt_of_cell k91
  have lk93 : W9.heap.size < W10.heap.size := block_lt_of_cell k93
  have hv10 : Below w.heap.size w W10 := bstep1 hv9 hb10
  clear hb10 hv9 k71 k72 k73 k74 k75 k76 k77 k78 k79 k80 lk71 lk73 lk75 lk77 lk79
  go_wp2_with fail
  refine (D1.out _).mono ?_
  rintro e W11 ⟨rfl, hb11⟩
  have k95 : W11.cell? ⟨w.heap.size, 0, none⟩ = some (.int .i64 a1) := kept_a1 k83 hb11
  have k96 : W11.cell? ⟨w.heap.size, 1, none⟩ = some (.int .i64 a2) := kept_a1 k84 hb11
  have k97 : W11.cell? ⟨w.heap.size + 1, 0, none⟩ = some (.int .i64 b1) := kept_a1 k85 hb11
  have k98 : W11.cell? ⟨w.heap.size + 1, 1, none⟩ = some (.int .i64 b2) := kept_a1 k86 hb11
  have k99 : W11.cell? ⟨w.heap.size + 1 + 1, 0, none⟩ = some (.int .i64 c1) := kept_a1 k87 hb11
  have k100 : W11.cell? ⟨w.heap.size + 1 + 1, 1, none⟩ = some (.int .i64 c2) := kept_a1 k88 hb11
  have k101 : W11.cell? ⟨W3.heap.size, 0, none⟩ = some (.int .i64 x1) := kept_a1 k89 hb11
  have k102 : W11.cell? ⟨W3.heap.size, 1, none⟩ = some (.int .i64 x2) := kept_a1 k90 hb11
  have k103 : W11.cell? ⟨W5.heap.size, 0, none⟩ = some (.int .i64 y1) := kept_a1 k91 hb11
  have k104 : W11.cell? ⟨W5.heap.size, 1, none⟩ = some (.int .i64 y2) := kept_a1 k92 hb11
  have k105 : W11.cell? ⟨W9.heap.size, 0, none⟩ = some (.int .i64 z1) := kept_a1 k93 hb11
  have k106 : W11.cell? ⟨W9.heap.size, 1, none⟩ = some (.int .i64 z2) := kept_a1 k94 hb11
  have lk95 : w.heap.size < W11.heap.size := block_lt_of_cell k95
  have lk97 : w.heap.size + 1 < W11.heap.size := block_lt_of_cell k97
  have lk99 : w.heap.size + 1 + 1 < W11.heap.size := block_lt_of_cell k99
  have lk101 : W3.heap.size < W11.heap.size := block_lt_of_cell k101
  have lk103 : W5.heap.size < W11.heap.size := block_lt_of_cell k103
  have lk105 : W9.heap.size < W11.heap.size := block_lt_of_cell k105
  have hv11 : Below w.heap.size w W11 := bstep1 hv10 hb11
  clear hb11 hv10 k83 k84 k85 k86 k87 k88 k89 k90 k91 k92 k93 k94 lk83 lk85 lk87 lk89 lk91 lk93
  go_wp2_with fail
  refine (M3.out _).mono ?_
  rintro e W12 ⟨rfl, hb12⟩
  have k107 : W12.cell? ⟨w.heap.size, 0, none⟩ = some (.int .i64 a1) := kept_a1 k95 hb12
  have k108 : W12.cell? ⟨w.heap.size, 1, none⟩ = some (.int .i64 a2) := kept_a1 k96 hb12
  have k109 : W12.cell? ⟨w.heap.size + 1, 0, none⟩ = some (.int .i64 b1) := kept_a1 k97 hb12
  have k110 : W12.cell? ⟨w.heap.size + 1, 1, none⟩ = some (.int .i64 b2) := kept_a1 k98 hb12
  have k111 : W12.cell? ⟨w.heap.size + 1 + 1, 0, none⟩ = some (.int .i64 c1) := kept_a1 k99 hb12
  have k112 : W12.cell? ⟨w.heap.size + 1 + 1, 1, none⟩ = some (.int .i64 c2) := kept_a1 k100 hb12
  have k113 : W12.cell? ⟨W3.heap.size, 0, none⟩ = some (.int .i64 x1) := kept_a1 k101 hb12
  have k114 : W12.cell? ⟨W3.heap.size, 1, none⟩ = some (.int .i64 x2) := kept_a1 k102 hb12
  have k115 : W12.cell? ⟨W5.heap.size, 0, none⟩ = some (.int .i64 y1) := kept_a1 k103 hb12
  have k116 : W12.cell? ⟨W5.heap.size, 1, none⟩ = some (.int .i64 y2) := kept_a1 k104 hb12
  have k117 : W12.cell? ⟨W9.heap.size, 0, none⟩ = some (.int .i64 z1) := kept_a1 k105 hb12
  have k118 : W12.cell? ⟨W9.heap.size, 1, none⟩ = some (.int .i64 z2) := kept_a1 k106 hb12
  have lk107 : w.heap.size < W12.heap.size := block_lt_of_cell k107
  have lk109 : w.heap.size + 1 < W12.heap.size := block_lt_of_cell k109
  have lk111 : w.heap.size + 1 + 1 < W12.heap.size := block_lt_of_cell k111
  have lk113 : W3.heap.size < W12.heap.size := block_lt_of_cell k113
  have lk115 : W5.heap.size < W12.heap.size := block_lt_of_cell k115
  have lk117 : W9.heap.size < W12.heap.size := block_lt_of_cell k117
  have hv12 : Below w.heap.size w W12 := bstep1 hv11 hb12
  clear hb12 hv11 k95 k96 k97 k98 k99 k100 k101 k102 k103 k104 k105 k106 lk95 lk97 lk99 lk101 lk103 lk105
  go_wp2_with fail
  refine (U1.out _).mono ?_
  rintro e W13 ⟨rfl, hb13⟩
  have k119 : W13.cell? ⟨w.heap.size, 0, none⟩ = some (.int .i64 a1) := kept_a1 k107 hb13
  have k120 : W13.cell? ⟨w.heap.size, 1, none⟩ = some (.int .i64 a2) := kept_a1 k108 hb13
  have k121 : W13.cell? ⟨w.heap.size + 1, 0, none⟩ = some (.int .i64 b1) := kept_a1 k109 hb13
  have k122 : W13.cell? ⟨w.heap.size + 1, 1, none⟩ = some (.int .i64 b2) := kept_a1 k110 hb13
  have k123 : W13.cell? ⟨w.heap.size + 1 + 1, 0, none⟩ = some (.int .i64 c1) := kept_a1 k111 hb13
  have k124 : W13.cell? ⟨w.heap.size + 1 + 1, 1, none⟩ = some (.int .i64 c2) := kept_a1 k112 hb13
  have k125 : W13.cell? ⟨W3.heap.size, 0, none⟩ = some (.int .i64 x1) := kept_a1 k113 hb13
  have k126 : W13.cell? ⟨W3.heap.size, 1, none⟩ = some (.int .i64 x2) := kept_a1 k114 hb13
  have k127 : W13.cell? ⟨W5.heap.size, 0, none⟩ = some (.int .i64 y1) := kept_a1 k115 hb13
  have k128 : W13.cell? ⟨W5.heap.size, 1, none⟩ = some (.int .i64 y2) := kept_a1 k116 hb13
  have k129 : W13.cell? ⟨W9.heap.size, 0, none⟩ = some (.int .i64 z1) := kept_a1 k117 hb13
  have k130 : W13.cell? ⟨W9.heap.size, 1, none⟩ = some (.int .i64 z2) := kept_a1 k118 hb13
  have k131 : W13.cell? ⟨W12.heap.size, 0, none⟩ = some (.int .i64 u1) := kept1 (by simp [go_sem]) hb13
  have k132 : W13.cell? ⟨W12.heap.size, 1, none⟩ = some (.int .i64 u2) := kept1 (by simp [go_sem]) hb13
  have lk119 : w.heap.size < W13.heap.size := block_lt_of_cell k119
  have lk121 : w.heap.size + 1 < W13.heap.size := block_lt_of_cell k121
  have lk123 : w.heap.size + 1 + 1 < W13.heap.size := block_lt_of_cell k123
  have lk125 : W3.heap.size < W13.heap.size := block_lt_of_cell k125
  have lk127 : W5.heap.size < W13.heap.size := block_lt_of_cell k127
  have lk129 : W9.heap.size < W13.heap.size := block_lt_of_cell k129
  have lk131 : W12.heap.size < W13.heap.size := block_lt_of_cell k131
  have hv13 : Below w.heap.size w W13 := bstep1 hv12 hb13
  clear hb13 hv12 k107 k108 k109 k110 k111 k112 k113 k114 k115 k116 k117 k118 lk107 lk109 lk111 lk113 lk115 lk117
  go_wp2_with fail
  refine (U2.out _).mono ?_
  rintro e W14 ⟨rfl, hb14⟩
  have k133 : W14.cell? ⟨w.heap.size, 0, none⟩ = some (.int .i64 a1) := kept_a1 k119 hb14
  have k134 : W14.cell? ⟨w.heap.size, 1, none⟩ = some (.int .i64 a2) := kept_a1 k120 hb14
  have k135 : W14.cell? ⟨w.heap.size + 1, 0, none⟩ = some (.int .i64 b1) := kept_a1 k121 hb14
  have k136 : W14.cell? ⟨w.heap.size + 1, 1, none⟩ = some (.int .i64 b2) := kept_a1 k122 hb14
  have k137 : W14.cell? ⟨w.heap.size + 1 + 1, 0, none⟩ = some (.int .i64 c1) := kept_a1 k123 hb14
  have k138 : W14.cell? ⟨w.heap.size + 1 + 1, 1, none⟩ = some (.int .i64 c2) := kept_a1 k124 hb14
  have k139 : W14.cell? ⟨W3.heap.size, 0, none⟩ = some (.int .i64 x1) := kept_a1 k125 hb14
  have k140 : W14.cell? ⟨W3.heap.size, 1, none⟩ = some (.int .i64 x2) := kept_a1 k126 hb14
  have k141 : W14.cell? ⟨W5.heap.size, 0, none⟩ = some (.int .i64 y1) := kept_a1 k127 hb14
  have k142 : W14.cell? ⟨W5.heap.size, 1, none⟩ = some (.int .i64 y2) := kept_a1 k128 hb14
  have k143 : W14.cell? ⟨W9.heap.size, 0, none⟩ = some (.int .i64 z1) := kept_a1 k129 hb14
  have k144 : W14.cell? ⟨W9.heap.size, 1, none⟩ = some (.int .i64 z2) := kept_a1 k130 hb14
  have k145 : W14.cell? ⟨W12.heap.size, 0, none⟩ = some (.int .i64 u1) := kept_a1 k131 hb14
  have k146 : W14.cell? ⟨W12.heap.size, 1, none⟩ = some (.int .i64 u2) := kept_a1 k132 hb14
  have k147 : W14.cell? ⟨W13.heap.size, 0, none⟩ = some (.int .i64 U.n) := kept1 (by simp [go_sem]) hb14
  have k148 : W14.cell? ⟨W13.heap.size, 1, none⟩ = some (.int .i64 U.d) := kept1 (by simp [go_sem]) hb14
  have lk133 : w.heap.size < W14.heap.size := block_lt_of_cell k133
  have lk135 : w.heap.size + 1 < W14.heap.size := block_lt_of_cell k135
  have lk137 : w.heap.size + 1 + 1 < W14.heap.size := block_lt_of_cell k137
  have lk139 : W3.heap.size < W14.heap.size := block_lt_of_cell k139
  have lk141 : W5.heap.size < W14.heap.size := block_lt_of_cell k141
  have lk143 : W9.heap.size < W14.heap.size := block_lt_of_cell k143
  have lk145 : W12.heap.size < W14.heap.size := block_lt_of_cell k145
  have lk147 : W13.heap.size < W14.heap.size := block_lt_of_cell k147
  have hv14 : Below w.heap.size w W14 := bstep1 hv13 hb14
  clear hb14 hv13 k119 k120 k121 k122 k123 k124 k125 k126 k127 k128 k129 k130 k131 k132 lk119 lk121 lk123 lk125 lk127 lk129 lk131
  go_wp2_with fail
  refine (M4.out _).mono ?_
  rintro e W15 ⟨rfl, hb15⟩
  have k149 : W15.cell? ⟨w.heap.size, 0, none⟩ = some (.int .i64 a1) := kept_a1 k133 hb15
  have k150 : W15.cell? ⟨w.heap.size, 1, none⟩ = some (.int .i64 a2) := kept_a1 k134 hb15
  have k151 : W15.cell? ⟨w.heap.size + 1, 0, none⟩ = some (.int .i64 b1) := kept_a1 k135 hb15
  have k152 : W15.cell? ⟨w.heap.size + 1, 1, none⟩ = some (.int .i64 b2) := kept_a1 k136 hb15
  have k153 : W15.cell? ⟨w.heap.size + 1 + 1, 0, none⟩ = some (.int .i64 c1) := kept_a1 k137 hb15
  have k154 : W15.cell? ⟨w.heap.size + 1 + 1, 1, none⟩ = some (.int .i64 c2) := kept_a1 k138 hb15
  have k155 : W15.cell? ⟨W3.heap.size, 0, none⟩ = some (.int .i64 x1) := kept_a1 k139 hb15
  have k156 : W15.cell? ⟨W3.heap.size, 1, none⟩ = some (.int .i64 x2) := kept_a1 k140 hb15
  have k157 : W15.cell? ⟨W5.heap.size, 0, none⟩ = some (.int .i64 y1) := kept_a1 k141 hb15
  have k158 : W15.cell? ⟨W5.heap.size, 1, none⟩ = some (.int .i64 y2) := kept_a1 k142 hb15
  have k159 : W15.cell? ⟨W9.heap.size, 0, none⟩ = some (.int .i64 z1) := kept_a1 k143 hb15
  have k160 : W15.cell? ⟨W9.heap.size, 1, none⟩ = some (.int .i64 z2) := kept_a1 k144 hb15
  have k161 : W15.cell? ⟨W12.heap.size, 0, none⟩ = some (.int .i64 u1) := kept_a1 k145 hb15
  have k162 : W15.cell? ⟨W12.heap.size, 1, none⟩ = some (.int .i64 u2) := kept_a1 k146 hb15
  have k163 : W15.cell? ⟨W13.heap.size, 0, none⟩ = some (.int .i64 U.n) := kept_a1 k147 hb15
  have k164 : W15.cell? ⟨W13.heap.size, 1, none⟩ = some (.int .i64 U.d) := kept_a1 k148 hb15
  have lk149 : w.heap.size < W15.heap.size := block_lt_of_cell k149
  have lk151 : w.heap.size + 1 < W15.heap.size := block_lt_of_cell k151
  have lk153 : w.heap.size + 1 + 1 < W15.heap.size := block_lt_of_cell k153
  have lk155 : W3.heap.size < W15.heap.size := block_lt_of_cell k155
  have lk157 : W5.heap.size < W15.heap.size := block_lt_of_cell k157
  have lk159 : W9.heap.size < W15.heap.size := block_lt_of_cell k159
  have lk161 : W12.heap.size < W15.heap.size := block_lt_of_cell k161
  have lk163 : W13.heap.size < W15.heap.size := block_lt_of_cell k163
  have hv15 : Below w.heap.size w W15 := bstep1 hv14 hb15
  clear hb15 hv14 k133 k134 k135 k136 k137 k138 k139 k140 k141 k142 k143 k144 k145 k146 k147 k148 lk133 lk135 lk137 lk139 lk141 lk143 lk145 lk147
  clear k161 k162 lk161
  clear k163 k164 lk163
  go_wp2_with fail
  refine (sanity_tab hT _ (below_alloc hv15 _)).mono ?_
  rintro e W16 ⟨rfl, hb16⟩
  have k165 : W16.cell? ⟨w.heap.size, 0, none⟩ = some (.int .i64 a1) := kept_a1 k149 hb16
  have k166 : W16.cell? ⟨w.heap.size, 1, none⟩ = some (.int .i64 a2) := kept_a1 k150 hb16
  have k167 : W16.cell? ⟨w.heap.size + 1, 0, none⟩ = some (.int .i64 b1) := kept_a1 k151 hb16
  have k168 : W16.cell? ⟨w.heap.size + 1, 1, none⟩ = some (.int .i64 b2) := kept_a1 k152 hb16
  have k169 : W16.cell? ⟨w.heap.size + 1 + 1, 0, none⟩ = some (.int .i64 c1) := kept_a1 k153 hb16
  have k170 : W16.cell? ⟨w.heap.size + 1 + 1, 1, none⟩ = some (.int .i64 c2) := kept_a1 k154 hb16
  have k171 : W16.cell? ⟨W3.heap.size, 0, none⟩ = some (.int .i64 x1) := kept_a1 k155 hb16
  have k172 : W16.cell? ⟨W3.heap.size, 1, none⟩ = some (.int .i64 x2) := kept_a1 k156 hb16
  have k173 : W16.cell? ⟨W5.heap.size, 0, none⟩ = some (.int .i64 y1) := kept_a1 k157 hb16
  have k174 : W16.cell? ⟨W5.heap.size, 1, none⟩ = some (.int .i64 y2) := kept_a1 k158 hb16
  have k175 : W16.cell? ⟨W9.heap.size, 0, none⟩ = some (.int .i64 z1) := kept_a1 k159 hb16
  have k176 : W16.cell? ⟨W9.heap.size, 1, none⟩ = some (.int .i64 z2) := kept_a1 k160 hb16
  have k177 : W16.cell? ⟨W15.heap.size, 0, none⟩ = some (.int .i64 0) := kept1 (by simp [go_sem]) hb16
  have k178 : W16.cell? ⟨W15.heap.size, 1, none⟩ = some (.int .i64 0) := kept1 (by simp [go_sem]) hb16
  have lk165 : w.heap.size < W16.heap.size := block_lt_of_cell k165
  have lk167 : w.heap.size + 1 < W16.heap.size := block_lt_of_cell k167
  have lk169 : w.heap.size + 1 + 1 < W16.heap.size := block_lt_of_cell k169
  have lk171 : W3.heap.size < W16.heap.size := block_lt_of_cell k171
  have lk173 : W5.heap.size < W16.heap.size := block_lt_of_cell k173
  have lk175 : W9.heap.size < W16.heap.size := block_lt_of_cell k175
  have lk177 : W15.heap.size < W16.heap.size := block_lt_of_cell k177
  have hv16 : Below w.heap.size w W16 := bstep1 hv15 hb16
  clear hb16 hv15 k149 k150 k151 k152 k153 k154 k155 k156 k157 k158 k159 k160 lk149 lk151 lk153 lk155 lk157 lk159
  go_wp2
  go_ret
  exact ⟨by first | rfl | simp, (by repeat (first | with_reducible exact Below.refl _ _ | with_reducible assumption | refine below_drewN ?_ _ | refine Below.drew ?_ | refine Below.alloc ?_ (by first | (simp; done) | (simp; omega) | omega) _ | refine Below.setCell ?_ (by first | (simp; done) | (simp; omega) | omega) _ | refine Below.trans ?_ (Below.mono (by assumption) (by first | (simp; done) | (simp; omega) | omega))))⟩

set_option maxRecDepth 100000 in
set_option maxHeartbeats 4000000 in
theorem field_03010q (a1 a2 b1 b2 c1 c2 x1 x2 z1 z2 u1 u2 : Int) (v U : Rt.Num) (KW : Hid (∀ W : World, Calls Tryd.prog 31 #[.agg #[.int .i64 a1, .int .i64 a2], .agg #[.int .i64 b1, .int .i64 b2]] W fun e w' => e = .returned (.bool false) ∧ Below W.heap.size W w')) (KV : Hid (∀ W : World, Calls Tryd.prog 22 #[.agg #[.int .i64 c1, .int .i64 c2]] W fun e w' => e = .returned (.bool true) ∧ Below W.heap.size W w')) (H1 : Hid (∀ W : World, Calls Tryd.prog 25 #[.agg #[.int .i64 a1, .int .i64 a2], .agg #[.int .i64 b1, .int .i64 b2]] W fun e w' => e = .returned (.tuple #[.agg #[.int .i64 x1, .int .i64 x2], .int .i64 0]) ∧ Below W.heap.size W w')) (H2 : Hid (∀ W : World, Calls Tryd.prog 25 #[.agg #[.int .i64 b1, .int .i64 b2], .agg #[.int .i64 a1, .int .i64 a2]] W fun e w' => e = .returned (.tuple #[.agg #[.int .i64 x1, .int .i64 x2], .int .i64 0]) ∧ Below W.heap.size W w')) (H3 : Hid (∀ W : World, Calls Tryd.prog 25 #[.agg #[.int .i64 b1, .int .i64 b2], .agg #[.int .i64 c1, .int .i64 c2]] W fun e w' => e = .returned (.tuple #[.agg #[.int .i64 0, .int .i64 0], .int .i64 3]) ∧ Below W.heap.size W w')) (S1 : Hid (∀ W : World, Calls Tryd.prog 26 #[.agg #[.int .i64 x1, .int .i64 x2], .agg #[.int .i64 b1, .int .i64 b2]] W fun e w' => e = .returned (.tuple #[.agg #[.int .i64 a1, .int .i64 a2], .int .i64 0]) ∧ Below W.heap.size W w')) (M1 : Hid (∀ W : World, Calls Tryd.prog 27 #[.agg #[.int .i64 a1, .int .i64 a2], .agg #[.int .i64 b1, .int .i64 b2]] W fun e w' => e = .returned (.tuple #[.agg #[.int .i64 z1, .int .i64 z2], .int .i64 0]) ∧ Below W.heap.size W w')) (M2 : Hid (∀ W : World, Calls Tryd.prog 27 #[.agg #[.int .i64 b1, .int .i64 b2], .agg #[.int .i64 a1, .int .i64 a2]] W fun e w' => e = .returned (.tuple #[.agg #[.int .i64 z1, .int .i64 z2], .int .i64 0]) ∧ Below W.heap.size W w')) (hz : b1 ≠ 0) (D1 : Hid (∀ W : World, Calls Tryd.prog 28 #[.agg #[.int .i64 z1, .int .i64 z2], .agg #[.int .i64 b1, .int .i64 b2]] W fun e w' => e = .returned (.tuple #[.agg #[.int .i64 a1, .int .i64 a2], .int .i64 0]) ∧ Below W.heap.size W w')) (M3 : Hid (∀ W : World, Calls Tryd.prog 27 #[.agg #[.int .i64 b1, .int .i64 b2], .agg #[.int .i64 c1, .int .i64 c2]] W fun e w' => e = .returned (.tuple #[.agg #[.int .i64 u1, .int .i64 u2], .int .i64 0]) ∧ Below W.heap.size W w')) (U1 : Hid (∀ W : World, Calls Tryd.prog 27 #[.agg #[.int .i64 z1, .int .i64 z2], .agg #[.int .i64 c1, .int .i64 c2]] W fun e w' => e = .returned (.tuple #[.agg #[.int .i64 U.n, .int .i64 U.d], .int .i64 U.e]) ∧ Below W.heap.size W w')) (U2 : Hid (∀ W : World, Calls Tryd.prog 27 #[.agg #[.int .i64 a1, .int .i64 a2], .agg #[.int .i64 u1, .int .i64 u2]] W fun e w' => e = .returned (.tuple #[.agg #[.int .i64 U.n, .int .i64 U.d], .int .i64 U.e]) ∧ Below W.heap.size W w')) (M4 : Hid (∀ W : World, Calls Tryd.prog 27 #[.agg #[.int .i64 a1, .int .i64 a2], .agg #[.int .i64 c1, .int .i64 c2]] W fun e w' => e = .returned (.tuple #[.agg #[.int .i64 v.n, .int .i64 v.d], .int .i64 v.e]) ∧ Below W.heap.size W w')) (w : World) (hT : Hid (Tab w.heap.size w)) :
    Calls Tryd.prog 11 #[.agg #[.int .i64 a1, .int .i64 a2], .agg #[.int .i64 b1, .int .i64 b2], .agg #[.int .i64 c1, .int .i64 c2]] w fun e w' => e = .returned (.bool true) ∧ Below w.heap.size w w' := by
  go_enter Tryd.func11, Tryd.ntmps11
  go_wp2_with fail
  refine (KW.out _).mono ?_
  rintro e W1 ⟨rfl, hb1⟩
  have k1 : W1.cell? ⟨w.heap.size, 0, none⟩ = some (.int .i64 a1) := kept1 (by simp [go_sem]) hb1
  have k2 : W1.cell? ⟨w.heap.size, 1, none⟩ = some (.int .i64 a2) := kept1 (by simp [go_sem]) hb1
  have k3 : W1.cell? ⟨w.heap.size + 1, 0, none⟩ = some (.int .i64 b1) := kept1 (by simp [go_sem]) hb1
  have k4 : W1.cell? ⟨w.heap.size + 1, 1, none⟩ = some (.int .i64 b2) := kept1 (by simp [go_sem]) hb1
  have k5 : W1.cell? ⟨w.heap.size + 1 + 1, 0, none⟩ = some (.int .i64 c1) := kept1 (by simp [go_sem]) hb1
  have k6 : W1.cell? ⟨w.heap.size + 1 + 1, 1, none⟩ = some (.int .i64 c2) := kept1 (by simp [go_sem]) hb1
  have lk1 : w.heap.size < W1.heap.size := block_lt_of_cell k1
  have lk3 : w.heap.size + 1 < W1.heap.size := block_lt_of_cell k3
  have lk5 : w.heap.size + 1 + 1 < W1.heap.size := block_lt_of_cell k5
  have hv1 : Below w.heap.size w W1 := bstep3 (Below.refl _ _) hb1
  clear hb1  
  go_wp2_with fail
  refine (KV.out _).mono ?_
  rintro e W2 ⟨rfl, hb2⟩
  have k7 : W2.cell? ⟨w.heap.size, 0, none⟩ = some (.int .i64 a1) := kept1 k1 hb2
  have k8 : W2.cell? ⟨w.heap.size, 1, none⟩ = some (.int .i64 a2) := kept1 k2 hb2
  have k9 : W2.cell? ⟨w.heap.size + 1, 0, none⟩ = some (.int .i64 b1) := kept1 k3 hb2
  have k10 : W2.cell? ⟨w.heap.size + 1, 1, none⟩ = some (.int .i64 b2) := kept1 k4 hb2
  have k11 : W2.cell? ⟨w.heap.size + 1 + 1, 0, none⟩ = some (.int .i64 c1) := kept1 k5 hb2
  have k12 : W2.cell? ⟨w.heap.size + 1 + 1, 1, none⟩ = some (.int .i64 c2) := kept1 k6 hb2
  have lk7 : w.heap.size < W2.heap.size := block_lt_of_cell k7
  have lk9 : w.heap.size + 1 < W2.heap.size := block_lt_of_cell k9
  have lk11 : w.heap.size + 1 + 1 < W2.heap.size := block_lt_of_cell k11
  have hv2 : Below w.heap.size w W2 := bstep0 hv1 hb2
  clear hb2 hv1 k1 k2 k3 k4 k5 k6 lk1 lk3 lk5
  go_wp2_with fail
  refine (H1.out _).mono ?_
  rintro e W3 ⟨rfl, hb3⟩
  have k13 : W3.cell? ⟨w.heap.size, 0, none⟩ = some (.int .i64 a1) := kept1 k7 hb3
  have k14 : W3.cell? ⟨w.heap.size, 1, none⟩ = some (.int .i64 a2) := kept1 k8 hb3
  have k15 : W3.cell? ⟨w.heap.size + 1, 0, none⟩ = some (.int .i64 b1) := kept1 k9 hb3
  have k16 : W3.cell? ⟨w.heap.size + 1, 1, none⟩ = some (.int .i64 b2) := kept1 k10 hb3
  have k17 : W3.cell? ⟨w.heap.size + 1 + 1, 0, none⟩ = some (.int .i64 c1) := kept1 k11 hb3
  have k18 : W3.cell? ⟨w.heap.size + 1 + 1, 1, none⟩ = some (.int .i64 c2) := kept1 k12 hb3
  have lk13 : w.heap.size < W3.heap.size := block_lt_of_cell k13
  have lk15 : w.heap.size + 1 < W3.heap.size := block_lt_of_cell k15
  have lk17 : w.heap.size + 1 + 1 < W3.heap.size := block_lt_of_cell k17
  have hv3 : Below w.heap.size w W3 := bstep0 hv2 hb3
  clear hb3 hv2 k7 k8 k9 k10 k11 k12 lk7 lk9 lk11
  go_wp2_with fail
  refine (H2.out _).mono ?_
  rintro e W4 ⟨rfl, hb4⟩
  have k19 : W4.cell? ⟨w.heap.size, 0, none⟩ = some (.int .i64 a1) := kept_a1 k13 hb4
  have k20 : W4.cell? ⟨w.heap.size, 1, none⟩ = some (.int .i64 a2) := kept_a1 k14 hb4
  have k21 : W4.cell? ⟨w.heap.size + 1, 0, none⟩ = some (.int .i64 b1) := kept_a1 k15 hb4
  have k22 : W4.cell? ⟨w.heap.size + 1, 1, none⟩ = some (.int .i64 b2) := kept_a1 k16 hb4
  have k23 : W4.cell? ⟨w.heap.size + 1 + 1, 0, none⟩ = some (.int .i64 c1) := kept_a1 k17 hb4
  have k24 : W4.cell? ⟨w.heap.size + 1 + 1, 1, none⟩ = some (.int .i64 c2) := kept_a1 k18 hb4
  have k25 : W4.cell? ⟨W3.heap.size, 0, none⟩ = some (.int .i64 x1) := kept1 (by simp [go_sem]) hb4
  have k26 : W4.cell? ⟨W3.heap.size, 1, none⟩ = some (.int .i64 x2) := kept1 (by simp [go_sem]) hb4
  have lk19 : w.heap.size < W4.heap.size := block_lt_of_cell k19
  have lk21 : w.heap.size + 1 < W4.heap.size := block_lt_of_cell k21
  have lk23 : w.heap.size + 1 + 1 < W4.heap.size := block_lt_of_cell k23
  have lk25 : W3.heap.size < W4.heap.size := block_lt_of_cell k25
  have hv4 : Below w.heap.size w W4 := bstep1 hv3 hb4
  clear hb4 hv3 k13 k14 k15 k16 k17 k18 lk13 lk15 lk17
  go_wp2_with fail
  refine (H3.out _).mono ?_
  rintro e W5 ⟨rfl, hb5⟩
  have k27 : W5.cell? ⟨w.heap.size, 0, none⟩ = some (.int .i64 a1) := kept_a1 k19 hb5
  have k28 : W5.cell? ⟨w.heap.size, 1, none⟩ = some (.int .i64 a2) := kept_a1 k20 hb5
  have k29 : W5.cell? ⟨w.heap.size + 1, 0, none⟩ = some (.int .i64 b1) := kept_a1 k21 hb5
  have k30 : W5.cell? ⟨w.heap.size + 1, 1, none⟩ = some (.int .i64 b2) := kept_a1 k22 hb5
  have k31 : W5.cell? ⟨w.heap.size + 1 + 1, 0, none⟩ = some (.int .i64 c1) := kept_a1 k23 hb5
  have k32 : W5.cell? ⟨w.heap.size + 1 + 1, 1, none⟩ = some (.int .i64 c2) := kept_a1 k24 hb5
  have k33 : W5.cell? ⟨W3.heap.size, 0, none⟩ = some (.int .i64 x1) := kept_a1 k25 hb5
  have k34 : W5.cell? ⟨W3.heap.size, 1, none⟩ = some (.int .i64 x2) := kept_a1 k26 hb5
  have k35 : W5.cell? ⟨W4.heap.size, 0, none⟩ = some (.int .i64 x1) := kept1 (by simp [go_sem]) hb5
  have k36 : W5.cell? ⟨W4.heap.size, 1, none⟩ = some (.int .i64 x2) := kept1 (by simp [go_sem]) hb5
  have lk27 : w.heap.size < W5.heap.size := block_lt_of_cell k27
  have lk29 : w.heap.size + 1 < W5.heap.size := block_lt_of_cell k29
  have lk31 : w.heap.size + 1 + 1 < W5.heap.size := block_lt_of_cell k31
  have lk33 : W3.heap.size < W5.heap.size := block_lt_of_cell k33
  have lk35 : W4.heap.size < W5.heap.size := block_lt_of_cell k35
  have hv5 : Below w.heap.size w W5 := bstep1 hv4 hb5
  clear hb5 hv4 k19 k20 k21 k22 k23 k24 k25 k26 lk19 lk21 lk23 lk25
  go_wp2_with fail
  refine (S1.out _).mono ?_
  rintro e W6 ⟨rfl, hb6⟩
  have k37 : W6.cell? ⟨w.heap.size, 0, none⟩ = some (.int .i64 a1) := kept_a1 k27 hb6
  have k38 : W6.cell? ⟨w.heap.size, 1, none⟩ = some (.int .i64 a2) := kept_a1 k28 hb6
  have k39 : W6.cell? ⟨w.heap.size + 1, 0, none⟩ = some (.int .i64 b1) := kept_a1 k29 hb6
  have k40 : W6.cell? ⟨w.heap.size + 1, 1, none⟩ = some (.int .i64 b2) := kept_a1 k30 hb6
  have k41 : W6.cell? ⟨w.heap.size + 1 + 1, 0, none⟩ = some (.int .i64 c1) := kept_a1 k31 hb6
  have k42 : W6.cell? ⟨w.heap.size + 1 + 1, 1, none⟩ = some (.int .i64 c2) := kept_a1 k32 hb6
  have k43 : W6.cell? ⟨W3.heap.size, 0, none⟩ = some (.int .i64 x1) := kept_a1 k33 hb6
  have k44 : W6.cell? ⟨W3.heap.size, 1, none⟩ = some (.int .i64 x2) := kept_a1 k34 hb6
  have k45 : W6.cell? ⟨W4.heap.size, 0, none⟩ = some (.int .i64 x1) := kept_a1 k35 hb6
  have k46 : W6.cell? ⟨W4.heap.size, 1, none⟩ = some (.int .i64 x2) := kept_a1 k36 hb6
  have k47 : W6.cell? ⟨W5.heap.size, 0, none⟩ = some (.int .i64 0) := kept1 (by simp [go_sem]) hb6
  have k48 : W6.cell? ⟨W5.heap.size, 1, none⟩ = some (.int .i64 0) := kept1 (by simp [go_sem]) hb6
  have lk37 : w.heap.size < W6.heap.size := block_lt_of_cell k37
  have lk39 : w.heap.size + 1 < W6.heap.size := block_lt_of_cell k39
  have lk41 : w.heap.size + 1 + 1 < W6.heap.size := block_lt_of_cell k41
  have lk43 : W3.heap.size < W6.heap.size := block_lt_of_cell k43
  have lk45 : W4.heap.size < W6.heap.size := block_lt_of_cell k45
  have lk47 : W5.heap.size < W6.heap.size := block_lt_of_cell k47
  have hv6 : Below w.heap.size w W6 := bstep1 hv5 hb6
  clear hb6 hv5 k27 k28 k29 k30 k31 k32 k33 k34 k35 k36 lk27 lk29 lk31 lk33 lk35
  clear k45 k46 lk45
  go_wp2_with fail
  refine (M1.out _).mono ?_
  rintro e W7 ⟨rfl, hb7⟩
  have k49 : W7.cell? ⟨w.heap.size, 0, none⟩ = some (.int .i64 a1) := kept_a1 k37 hb7
  have k50 : W7.cell? ⟨w.heap.size, 1, none⟩ = some (.int .i64 a2) := kept_a1 k38 hb7
  have k51 : W7.cell? ⟨w.heap.size + 1, 0, none⟩ = some (.int .i64 b1) := kept_a1 k39 hb7
  have k52 : W7.cell? ⟨w.heap.size + 1, 1, none⟩ = some (.int .i64 b2) := kept_a1 k40 hb7
  have k53 : W7.cell? ⟨w.heap.size + 1 + 1, 0, none⟩ = some (.int .i64 c1) := kept_a1 k41 hb7
  have k54 : W7.cell? ⟨w.heap.size + 1 + 1, 1, none⟩ = some (.int .i64 c2) := kept_a1 k42 hb7
  have k55 : W7.cell? ⟨W3.heap.size, 0, none⟩ = some (.int .i64 x1) := kept_a1 k43 hb7
  have k56 : W7.cell? ⟨W3.heap.size, 1, none⟩ = some (.int .i64 x2) := kept_a1 k44 hb7
  have k57 : W7.cell? ⟨W5.heap.size, 0, none⟩ = some (.int .i64 0) := kept_a1 k47 hb7
  have k58 : W7.cell? ⟨W5.heap.size, 1, none⟩ = some (.int .i64 0) := kept_a1 k48 hb7
  have lk49 : w.heap.size < W7.heap.size := block_lt_of_cell k49
  have lk51 : w.heap.size + 1 < W7.heap.size := block_lt_of_cell k51
  have lk53 : w.heap.size + 1 + 1 < W7.heap.size := block_lt_of_cell k53
  have lk55 : W3.heap.size < W7.heap.size := block_lt_of_cell k55
  have lk57 : W5.heap.size < W7.heap.size := block_lt_of_cell k57
  have hv7 : Below w.heap.size w W7 := bstep1 hv6 hb7
  clear hb7 hv6 k37 k38 k39 k40 k41 k42 k43 k44 k47 k48 lk37 lk39 lk41 lk43 lk47
  go_wp2_with fail
  refine (M2.out _).mono ?_
  rintro e W8 ⟨rfl, hb8⟩
  have k59 : W8.cell? ⟨w.heap.size, 0, none⟩ = some (.int .i64 a1) := kept_a1 k49 hb8
  have k60 : W8.cell? ⟨w.heap.size, 1, none⟩ = some (.int .i64 a2) := kept_a1 k50 hb8
  have k61 : W8.cell? ⟨w.heap.size + 1, 0, none⟩ = some (.int .i64 b1) := kept_a1 k51 hb8
  have k62 : W8.cell? ⟨w.heap.size + 1, 1, none⟩ = some (.int .i64 b2) := kept_a1 k52 hb8
  have k63 : W8.cell? ⟨w.heap.size + 1 + 1, 0, none⟩ = some (.int .i64 c1) := kept_a1 k53 hb8
  have k64 : W8.cell? ⟨w.heap.size + 1 + 1, 1, none⟩ = some (.int .i64 c2) := kept_a1 k54 hb8
  have k65 : W8.cell? ⟨W3.heap.size, 0, none⟩ = some (.int .i64 x1) := kept_a1 k55 hb8
  have k66 : W8.cell? ⟨W3.heap.size, 1, none⟩ = some (.int .i64 x2) := kept_a1 k56 hb8
  have k67 : W8.cell? ⟨W5.heap.size, 0, none⟩ = some (.int .i64 0) := kept_a1 k57 hb8
  have k68 : W8.cell? ⟨W5.heap.size, 1, none⟩ = some (.int .i64 0) := kept_a1 k58 hb8
  have k69 : W8.cell? ⟨W7.heap.size, 0, none⟩ = some (.int .i64 z1) := kept1 (by simp [go_sem]) hb8
  have k70 : W8.cell? ⟨W7.heap.size, 1, none⟩ = some (.int .i64 z2) := kept1 (by simp [go_sem]) hb8
  have lk59 : w.heap.size < W8.heap.size := block_lt_of_cell k59
  have lk61 : w.heap.size + 1 < W8.heap.size := block_lt_of_cell k61
  have lk63 : w.heap.size + 1 + 1 < W8.heap.size := block_lt_of_cell k63
  have lk65 : W3.heap.size < W8.heap.size := block_lt_of_cell k65
  have lk67 : W5.heap.size < W8.heap.size := block_lt_of_cell k67
  have lk69 : W7.heap.size < W8.heap.size := block_lt_of_cell k69
  have hv8 : Below w.heap.size w W8 := bstep1 hv7 hb8
  clear hb8 hv7 k49 k50 k51 k52 k53 k54 k55 k56 k57 k58 lk49 lk51 lk53 lk55 lk57
  go_wp2_with fail
  refine (D1.out _).mono ?_
  rintro e W9 ⟨rfl, hb9⟩
  have k71 : W9.cell? ⟨w.heap.size, 0, none⟩ = some (.int .i64 a1) := kept_a1 k59 hb9
  have k72 : W9.cell? ⟨w.heap.size, 1, none⟩ = some (.int .i64 a2) := kept_a1 k60 hb9
  have k73 : W9.cell? ⟨w.heap.size + 1, 0, none⟩ = some (.int .i64 b1) := kept_a1 k61 hb9
  have k74 : W9.cell? ⟨w.heap.size + 1, 1, none⟩ = some (.int .i64 b2) := kept_a1 k62 hb9
  have k75 : W9.cell? ⟨w.heap.size + 1 + 1, 0, none⟩ = some (.int .i64 c1) := kept_a1 k63 hb9
  have k76 : W9.cell? ⟨w.heap.size + 1 + 1, 1, none⟩ = some (.int .i64 c2) := kept_a1 k64 hb9
  have k77 : W9.cell? ⟨W3.heap.size, 0, none⟩ = some (.int .i64 x1) := kept_a1 k65 hb9
  have k78 : W9.cell? ⟨W3.heap.size, 1, none⟩ = some (.int .i64 x2) := kept_a1 k66 hb9
  have k79 : W9.cell? ⟨W5.heap.size, 0, none⟩ = some (.int .i64 0) := kept_a1 k67 hb9
  have k80 : W9.cell? ⟨W5.heap.size, 1, none⟩ = some (.int .i64 0) := kept_a1 k68 hb9
  have k81 : W9.cell? ⟨W7.heap.size, 0, none⟩ = some (.int .i64 z1) := kept_a1 k69 hb9
  have k82 : W9.cell? ⟨W7.heap.size, 1, none⟩ = some (.int .i64 z2) := kept_a1 k70 hb9
  have lk71 : w.heap.size < W9.heap.size := block_lt_of_cell k71
  have lk73 : w.heap.size + 1 < W9.heap.size := block_lt_of_cell k73
  have lk75 : w.heap.size + 1 + 1 < W9.heap.size := block_lt_of_cell k75
  have lk77 : W3.heap.size < W9.heap.size := block_lt_of_cell k77
  have lk79 : W5.heap.size < W9.heap.size := block_lt_of_cell k79
  have lk81 : W7.heap.size < W9.heap.size := block_lt_of_cell k81
  have hv9 : Below w.heap.size w W9 := bstep1 hv8 hb9
  clear hb9 hv8 k59 k60 k61 k62 k63 k64 k65 k66 k67 k68 k69 k70 lk59 lk61 lk63 lk65 lk67 lk69
  go_wp2_with fail
  refine (M3.out _).mono ?_
  rintro e W10 ⟨rfl, hb10⟩
  have k83 : W10.cell? ⟨w.heap.size, 0, none⟩ = some (.int .i64 a1) := kept_a1 k71 hb10
  have k84 : W10.cell? ⟨w.heap.size, 1, none⟩ = some (.int .i64 a2) := kept_a1 k72 hb10
  have k85 : W10.cell? ⟨w.heap.size + 1, 0, none⟩ = some (.int .i64 b1) := kept_a1 k73 hb10
  have k86 : W10.cell? ⟨w.heap.size + 1, 1, none⟩ = some (.int .i64 b2) := kept_a1 k74 hb10
  have k87 : W10.cell? ⟨w.heap.size + 1 + 1, 0, none⟩ = some (.int .i64 c1) := kept_a1 k75 hb10
  have k88 : W10.cell? ⟨w.heap.size + 1 + 1, 1, none⟩ = some (.int .i64 c2) := kept_a1 k76 hb10
  have k89 : W10.cell? ⟨W3.heap.size, 0, none⟩ = some (.int .i64 x1) := kept_a1 k77 hb10
  have k90 : W10.cell? ⟨W3.heap.size, 1, none⟩ = some (.int .i64 x2) := kept_a1 k78 hb10
  have k91 : W10.cell? ⟨W5.heap.size, 0, none⟩ = some (.int .i64 0) := kept_a1 k79 hb10
  have k92 : W10.cell? ⟨W5.heap.size, 1, none⟩ = some (.int .i64 0) := kept_a1 k80 hb10
  have k93 : W10.cell? ⟨W7.heap.size, 0, none⟩ = some (.int .i64 z1) := kept_a1 k81 hb10
  have k94 : W10.cell? ⟨W7.heap.size, 1, none⟩ = some (.int .i64 z2) := kept_a1 k82 hb10
  have lk83 : w.heap.size < W10.heap.size := block_lt_of_cell k83
  have lk85 : w.heap.size + 1 < W10.heap.size := block_lt_of_cell k85
  have lk87 : w.heap.size + 1 + 1 < W10.heap.size := block_lt_of_cell k87
  have lk89 : W3.heap.size < W10.heap.size := block_lt_of_cell k89
  have lk91 : W5.heap.size < W10.heap.size := block_lt_of_cell k91
  have lk93 : W7.heap.size < W10.heap.size := block_lt_of_cell k93
  have hv10 : Below w.heap.size w W10 := bstep1 hv9 hb10
  clear hb10 hv9 k71 k72 k73 k74 k75 k76 k77 k78 k79 k80 k81 k82 lk71 lk73 lk75 lk77 lk79 lk81
  go_wp2_with fail
  refine (U1.out _).mono ?_
  rintro e W11 ⟨rfl, hb11⟩
  have k95 : W11.cell? ⟨w.heap.size, 0, none⟩ = some (.int .i64 a1) := kept_a1 k83 hb11
  have k96 : W11.cell? ⟨w.heap.size, 1, none⟩ = some (.int .i64 a2) := kept_a1 k84 hb11
  have k97 : W11.cell? ⟨w.heap.size + 1, 0, none⟩ = some (.int .i64 b1) := kept_a1 k85 hb11
  have k98 : W11.cell? ⟨w.heap.size + 1, 1, none⟩ = some (.int .i64 b2) := kept_a1 k86 hb11
  have k99 : W11.cell? ⟨w.heap.size + 1 + 1, 0, none⟩ = some (.int .i64 c1) := kept_a1 k87 hb11
  have k100 : W11.cell? ⟨w.heap.size + 1 + 1, 1, none⟩ = some (.int .i64 c2) := kept_a1 k88 hb11
  have k101 : W11.cell? ⟨W3.heap.size, 0, none⟩ = some (.int .i64 x1) := kept_a1 k89 hb11
  have k102 : W11.cell? ⟨W3.heap.size, 1, none⟩ = some (.int .i64 x2) := kept_a1 k90 hb11
  have k103 : W11.cell? ⟨W5.heap.size, 0, none⟩ = some (.int .i64 0) := kept_a1 k91 hb11
  have k104 : W11.cell? ⟨W5.heap.size, 1, none⟩ = some (.int .i64 0) := kept_a1 k92 hb11
  have k105 : W11.cell? ⟨W7.heap.size, 0, none⟩ = some (.int .i64 z1) := kept_a1 k93 hb11
  have k106 : W11.cell? ⟨W7.heap.size, 1, none⟩ = some (.int .i64 z2) := kept_a1 k94 hb11
  have k107 : W11.cell? ⟨W10.heap.size, 0, none⟩ = some (.int .i64 u1) := kept1 (by simp [go_sem]) hb11
  have k108 : W11.cell? ⟨W10.heap.size, 1, none⟩ = some (.int .i64 u2) := kept1 (by simp [go_sem]) hb11
  have lk95 : w.heap.size < W11.heap.size := block_lt_of_cell k95
  have lk97 : w.heap.size + 1 < W11.heap.size := block_lt_of_cell k97
  have lk99 : w.heap.size + 1 + 1 < W11.heap.size := block_lt_of_cell k99
  have lk101 : W3.heap.size < W11.heap.size := block_lt_of_cell k101
  have lk103 : W5.heap.size < W11.heap.size := block_lt_of_cell k103
  have lk105 : W7.heap.size < W11.heap.size := block_lt_of_cell k105
  have lk107 : W10.heap.size < W11.heap.size := block_lt_of_cell k107
  have hv11 : Below w.heap.size w W11 := bstep1 hv10 hb11
  clear hb11 hv10 k83 k84 k85 k86 k87 k88 k89 k90 k91 k92 k93 k94 lk83 lk85 lk87 lk89 lk91 lk93
  go_wp2_with fail
  refine (U2.out _).mono ?_
  rintro e W12 ⟨rfl, hb12⟩
  have k109 : W12.cell? ⟨w.heap.size, 0, none⟩ = some (.int .i64 a1) := kept_a1 k95 hb12
  have k110 : W12.cell? ⟨w.heap.size, 1, none⟩ = some (.int .i64 a2) := kept_a1 k96 hb12
  have k111 : W12.cell? ⟨w.heap.size + 1, 0, none⟩ = some (.int .i64 b1) := kept_a1 k97 hb12
  have k112 : W12.cell? ⟨w.heap.size + 1, 1, none⟩ = some (.int .i64 b2) := kept_a1 k98 hb12
  have k113 : W12.cell? ⟨w.heap.size + 1 + 1, 0, none⟩ = some (.int .i64 c1) := kept_a1 k99 hb12
  have k114 : W12.cell? ⟨w.heap.size + 1 + 1, 1, none⟩ = some (.int .i64 c2) := kept_a1 k100 hb12
  have k115 : W12.cell? ⟨W3.heap.size, 0, none⟩ = some (.int .i64 x1) := kept_a1 k101 hb12
  have k116 : W12.cell? ⟨W3.heap.size, 1, none⟩ = some (.int .i64 x2) := kept_a1 k102 hb12
  have k117 : W12.cell? ⟨W5.heap.size, 0, none⟩ = some (.int .i64 0) := kept_a1 k103 hb12
  have k118 : W12.cell? ⟨W5.heap.size, 1, none⟩ = some (.int .i64 0) := kept_a1 k104 hb12
  have k119 : W12.cell? ⟨W7.heap.size, 0, none⟩ = some (.int .i64 z1) := kept_a1 k105 hb12
  have k120 : W12.cell? ⟨W7.heap.size, 1, none⟩ = some (.int .i64 z2) := kept_a1 k106 hb12
  have k121 : W12.cell? ⟨W10.heap.size, 0, none⟩ = some (.int .i64 u1) := kept_a1 k107 hb12
  have k122 : W12.cell? ⟨W10.heap.size, 1, none⟩ = some (.int .i64 u2) := kept_a1 k108 hb12
  have k123 : W12.cell? ⟨W11.heap.size, 0, none⟩ = some (.int .i64 U.n) := kept1 (by simp [go_sem]) hb12
  have k124 : W12.cell? ⟨W11.heap.size, 1, none⟩ = some (.int .i64 U.d) := kept1 (by simp [go_sem]) hb12
  have lk109 : w.heap.size < W12.heap.size := block_lt_of_cell k109
  have lk111 : w.heap.size + 1 < W12.heap.size := block_lt_of_cell k111
  have lk113 : w.heap.size + 1 + 1 < W12.heap.size := block_lt_of_cell k113
  have lk115 : W3.heap.size < W12.heap.size := block_lt_of_cell k115
  have lk117 : W5.heap.size < W12.heap.size := block_lt_of_cell k117
  have lk119 : W7.heap.size < W12.heap.size := block_lt_of_cell k119
  have lk121 : W10.heap.size < W12.heap.size := block_lt_of_cell k121
  have lk123 : W11.heap.size < W12.heap.size := block_lt_of_cell k123
  have hv12 : Below w.heap.size w W12 := bstep1 hv11 hb12
  clear hb12 hv11 k95 k96 k97 k98 k99 k100 k101 k102 k103 k104 k105 k106 k107 k108 lk95 lk97 lk99 lk101 lk103 lk105 lk107
  go_wp2_with fail
  refine (M4.out _).mono ?_
  rintro e W13 ⟨rfl, hb13⟩
  have k125 : W13.cell? ⟨w.heap.size, 0, none⟩ = some (.int .i64 a1) := kept_a1 k109 hb13
  have k126 : W13.cell? ⟨w.heap.size, 1, none⟩ = some (.int .i64 a2) := kept_a1 k110 hb13
  have k127 : W13.cell? ⟨w.heap.size + 1, 0, none⟩ = some (.int .i64 b1) := kept_a1 k111 hb13
  have k128 : W13.cell? ⟨w.heap.size + 1, 1, none⟩ = some (.int .i64 b2) := kept_a1 k112 hb13
  have k129 : W13.cell? ⟨w.heap.size + 1 + 1, 0, none⟩ = some (.int .i64 c1) := kept_a1 k113 hb13
  have k130 : W13.cell? ⟨w.heap.size + 1 + 1, 1, none⟩ = some (.int .i64 c2) := kept_a1 k114 hb13
  have k131 : W13.cell? ⟨W3.heap.size, 0, none⟩ = some (.int .i64 x1) := kept_a1 k115 hb13
  have k132 : W13.cell? ⟨W3.heap.size, 1, none⟩ = some (.int .i64 x2) := kept_a1 k116 hb13
  have k133 : W13.cell? ⟨W5.heap.size, 0, none⟩ = some (.int .i64 0) := kept_a1 k117 hb13
  have k134 : W13.cell? ⟨W5.heap.size, 1, none⟩ = some (.int .i64 0) := kept_a1 k118 hb13
  have k135 : W13.cell? ⟨W7.heap.size, 0, none⟩ = some (.int .i64 z1) := kept_a1 k119 hb13
  have k136 : W13.cell? ⟨W7.heap.size, 1, none⟩ = some (.int .i64 z2) := kept_a1 k120 hb13
  have k137 : W13.cell? ⟨W10.heap.size, 0, none⟩ = some (.int .i64 u1) := kept_a1 k121 hb13
  have k138 : W13.cell? ⟨W10.heap.size, 1, none⟩ = some (.int .i64 u2) := kept_a1 k122 hb13
  have k139 : W13.cell? ⟨W11.heap.size, 0, none⟩ = some (.int .i64 U.n) := kept_a1 k123 hb13
  have k140 : W13.cell? ⟨W11.heap.size, 1, none⟩ = some (.int .i64 U.d) := kept_a1 k124 hb13
  have lk125 : w.heap.size < W13.heap.size := block_lt_of_cell k125
  have lk127 : w.heap.size + 1 < W13.heap.size := block_lt_of_cell k127
  have lk129 : w.heap.size + 1 + 1 < W13.heap.size := block_lt_of_cell k129
  have lk131 : W3.heap.size < W13.heap.size := block_lt_of_cell k131
  have lk133 : W5.heap.size < W13.heap.size := block_lt_of_cell k133
  have lk135 : W7.heap.size < W13.heap.size := block_lt_of_cell k135
  have lk137 : W10.heap.size < W13.heap.size := block_lt_of_cell k137
  have lk139 : W11.heap.size < W13.heap.size := block_lt_of_cell k139
  have hv13 : Below w.heap.size w W13 := bstep1 hv12 hb13
  clear hb13 hv12 k109 k110 k111 k112 k113 k114 k115 k116 k117 k118 k119 k120 k121 k122 k123 k124 lk109 lk111 lk113 lk115 lk117 lk119 lk121 lk123
  clear k137 k138 lk137
  clear k139 k140 lk139
  go_wp2_with fail
  refine (sanity_tab hT _ (below_alloc hv13 _)).mono ?_
  rintro e W14 ⟨rfl, hb14⟩
  have k141 : W14.cell? ⟨w.heap.size, 0, none⟩ = some (.int .i64 a1) := kept_a1 k125 hb14
  have k142 : W14.cell? ⟨w.heap.size, 1, none⟩ = some (.int .i64 a2) := kept_a1 k126 hb14
  have k143 : W14.cell? ⟨w.heap.size + 1, 0, none⟩ = some (.int .i64 b1) := kept_a1 k127 hb14
  have k144 : W14.cell? ⟨w.heap.size + 1, 1, none⟩ = some (.int .i64 b2) := kept_a1 k128 hb14
  have k145 : W14.cell? ⟨w.heap.size + 1 + 1, 0, none⟩ = some (.int .i64 c1) := kept_a1 k129 hb14
  have k146 : W14.cell? ⟨w.heap.size + 1 + 1, 1, none⟩ = some (.int .i64 c2) := kept_a1 k130 hb14
  have k147 : W14.cell? ⟨W3.heap.size, 0, none⟩ = some (.int .i64 x1) := kept_a1 k131 hb14
  have k148 : W14.cell? ⟨W3.heap.size, 1, none⟩ = some (.int .i64 x2) := kept_a1 k132 hb14
  have k149 : W14.cell? ⟨W5.heap.size, 0, none⟩ = some (.int .i64 0) := kept_a1 k133 hb14
  have k150 : W14.cell? ⟨W5.heap.size, 1, none⟩ = some (.int .i64 0) := kept_a1 k134 hb14
  have k151 : W14.cell? ⟨W7.heap.size, 0, none⟩ = some (.int .i64 z1) := kept_a1 k135 hb14
  have k152 : W14.cell? ⟨W7.heap.size, 1, none⟩ = some (.int .i64 z2) := kept_a1 k136 hb14
  have k153 : W14.cell? ⟨W13.heap.size, 0, none⟩ = some (.int .i64 v.n) := kept1 (by simp [go_sem]) hb14
  have k154 : W14.cell? ⟨W13.heap.size, 1, none⟩ = some (.int .i64 v.d) := kept1 (by simp [go_sem]) hb14
  have lk141 : w.heap.size < W14.heap.size := block_lt_of_cell k141
  have lk143 : w.heap.size + 1 < W14.heap.size := block_lt_of_cell k143
  have lk145 : w.heap.size + 1 + 1 < W14.heap.size := block_lt_of_cell k145
  have lk147 : W3.heap.size < W14.heap.size := block_lt_of_cell k147
  have lk149 : W5.heap.size < W14.heap.size := block_lt_of_cell k149
  have lk151 : W7.heap.size < W14.heap.size := block_lt_of_cell k151
  have lk153 : W13.heap.size < W14.heap.size := block_lt_of_cell k153
  have hv14 : Below w.heap.size w W14 := bstep1 hv13 hb14
  clear hb14 hv13 k125 k126 k127 k128 k129 k130 k131 k132 k133 k134 k135 k136 lk125 lk127 lk129 lk131 lk133 lk135
  go_wp2
  go_ret
  exact ⟨by first | rfl | simp, (by repeat (first | with_reducible exact Below.refl _ _ | with_reducible assumption | refine below_drewN ?_ _ | refine Below.drew ?_ | refine Below.alloc ?_ (by first | (simp; done) | (simp; omega) | omega) _ | refine Below.setCell ?_ (by first | (simp; done) | (simp; omega) | omega) _ | refine Below.trans ?_ (Below.mono (by assumption) (by first | (simp; done) | (simp; omega) | omega))))⟩

set_option maxRecDepth 100000 in
set_option maxHeartbeats 4000000 in
theorem field_300103 (a1 a2 b1 b2 c1 c2 y1 y2 z1 z2 u1 u2 : Int) (U : Rt.Num) (KW : Hid (∀ W : World, Calls Tryd.prog 31 #[.agg #[.int .i64 a1, .int .i64 a2], .agg #[.int .i64 b1, .int .i64 b2]] W fun e w' => e = .returned (.bool false) ∧ Below W.heap.size W w')) (KV : Hid (∀ W : World, Calls Tryd.prog 22 #[.agg #[.int .i64 c1, .int .i64 c2]] W fun e w' => e = .returned (.bool true) ∧ Below W.heap.size W w')) (H1 : Hid (∀ W : World, Calls Tryd.prog 25 #[.agg #[.int .i64 a1, .int .i64 a2], .agg #[.int .i64 b1, .int .i64 b2]] W fun e w' => e = .returned (.tuple #[.agg #[.int .i64 0, .int .i64 0], .int .i64 3]) ∧ Below W.heap.size W w')) (H2 : Hid (∀ W : World, Calls Tryd.prog 25 #[.agg #[.int .i64 b1, .int .i64 b2], .agg #[.int .i64 a1, .int .i64 a2]] W fun e w' => e = .returned (.tuple #[.agg #[.int .i64 0, .int .i64 0], .int .i64 3]) ∧ Below W.heap.size W w')) (H3 : Hid (∀ W : World, Calls Tryd.prog 25 #[.agg #[.int .i64 b1, .int .i64 b2], .agg #[.int .i64 c1, .int .i64 c2]] W fun e w' => e = .returned (.tuple #[.agg #[.int .i64 y1, .int .i64 y2], .int .i64 0]) ∧ Below W.heap.size W w')) (M1 : Hid (∀ W : World, Calls Tryd.prog 27 #[.agg #[.int .i64 a1, .int .i64 a2], .agg #[.int .i64 b1, .int .i64 b2]] W fun e w' => e = .returned (.tuple #[.agg #[.int .i64 z1, .int .i64 z2], .int .i64 0]) ∧ Below W.heap.size W w')) (M2 : Hid (∀ W : World, Calls Tryd.prog 27 #[.agg #[.int .i64 b1, .int .i64 b2], .agg #[.int .i64 a1, .int .i64 a2]] W fun e w' => e = .returned (.tuple #[.agg #[.int .i64 z1, .int .i64 z2], .int .i64 0]) ∧ Below W.heap.size W w')) (hz : b1 ≠ 0) (D1 : Hid (∀ W : World, Calls Tryd.prog 28 #[.agg #[.int .i64 z1, .int .i64 z2], .agg #[.int .i64 b1, .int .i64 b2]] W fun e w' => e = .returned (.tuple #[.agg #[.int .i64 a1, .int .i64 a2], .int .i64 0]) ∧ Below W.heap.size W w')) (M3 : Hid (∀ W : World, Calls Tryd.prog 27 #[.agg #[.int .i64 b1, .int .i64 b2], .agg #[.int .i64 c1, .int .i64 c2]] W fun e w' => e = .returned (.tuple #[.agg #[.int .i64 u1, .int .i64 u2], .int .i64 0]) ∧ Below W.heap.size W w')) (U1 : Hid (∀ W : World, Calls Tryd.prog 27 #[.agg #[.int .i64 z1, .int .i64 z2], .agg #[.int .i64 c1, .int .i64 c2]] W fun e w' => e = .returned (.tuple #[.agg #[.int .i64 U.n, .int .i64 U.d], .int .i64 U.e]) ∧ Below W.heap.size W w')) (U2 : Hid (∀ W : World, Calls Tryd.prog 27 #[.agg #[.int .i64 a1, .int .i64 a2], .agg #[.int .i64 u1, .int .i64 u2]] W fun e w' => e = .returned (.tuple #[.agg #[.int .i64 U.n, .int .i64 U.d], .int .i64 U.e]) ∧ Below W.heap.size W w')) (M4 : Hid (∀ W : World, Calls Tryd.prog 27 #[.agg #[.int .i64 a1, .int .i64 a2], .agg #[.int .i64 c1, .int .i64 c2]] W fun e w' => e = .returned (.tuple #[.agg #[.int .i64 0, .int .i64 0], .int .i64 3]) ∧ Below W.heap.size W w')) (w : World) (hT : Hid (Tab w.heap.size w)) :
    Calls Tryd.prog 11 #[.agg #[.int .i64 a1, .int .i64 a2], .agg #[.int .i64 b1, .int .i64 b2], .agg #[.int .i64 c1, .int .i64 c2]] w fun e w' => e = .returned (.bool true) ∧ Below w.heap.size w w' := by
  go_enter Tryd.func11, Tryd.ntmps11
  go_wp2_with fail
  refine (KW.out _).mono ?_
  rintro e W1 ⟨rfl, hb1⟩
  have k1 : W1.cell? ⟨w.heap.size, 0, none⟩ = some (.int .i64 a1) := kept1 (by simp [go_sem]) hb1
  have k2 : W1.cell? ⟨w.heap.size, 1, none⟩ = some (.int .i64 a2) := kept1 (by simp [go_sem]) hb1
  have k3 : W1.cell? ⟨w.heap.size + 1, 0, none⟩ = some (.int .i64 b1) := kept1 (by simp [go_sem]) hb1
  have k4 : W1.cell? ⟨w.heap.size + 1, 1, none⟩ = some (.int .i64 b2) := kept1 (by simp [go_sem]) hb1
  have k5 : W1.cell? ⟨w.heap.size + 1 + 1, 0, none⟩ = some (.int .i64 c1) := kept1 (by simp [go_sem]) hb1
  have k6 : W1.cell? ⟨w.heap.size + 1 + 1, 1, none⟩ = some (.int .i64 c2) := kept1 (by simp [go_sem]) hb1
  have lk1 : w.heap.size < W1.heap.size := block_lt_of_cell k1
  have lk3 : w.heap.size + 1 < W1.heap.size := block_lt_of_cell k3
  have lk5 : w.heap.size + 1 + 1 < W1.heap.size := block_lt_of_cell k5
  have hv1 : Below w.heap.size w W1 := bstep3 (Below.refl _ _) hb1
  clear hb1  
  go_wp2_with fail
  refine (KV.out _).mono ?_
  rintro e W2 ⟨rfl, hb2⟩
  have k7 : W2.cell? ⟨w.heap.size, 0, none⟩ = some (.int .i64 a1) := kept1 k1 hb2
  have k8 : W2.cell? ⟨w.heap.size, 1, none⟩ = some (.int .i64 a2) := kept1 k2 hb2
  have k9 : W2.cell? ⟨w.heap.size + 1, 0, none⟩ = some (.int .i64 b1) := kept1 k3 hb2
  have k10 : W2.cell? ⟨w.heap.size + 1, 1, none⟩ = some (.int .i64 b2) := kept1 k4 hb2
  have k11 : W2.cell? ⟨w.heap.size + 1 + 1, 0, none⟩ = some (.int .i64 c1) := kept1 k5 hb2
  have k12 : W2.cell? ⟨w.heap.size + 1 + 1, 1, none⟩ = some (.int .i64 c2) := kept1 k6 hb2
  have lk7 : w.heap.size < W2.heap.size := block_lt_of_cell k7
  have lk9 : w.heap.size + 1 < W2.heap.size := block_lt_of_cell k9
  have lk11 : w.heap.size + 1 + 1 < W2.heap.size := block_lt_of_cell k11
  have hv2 : Below w.heap.size w W2 := bstep0 hv1 hb2
  clear hb2 hv1 k1 k2 k3 k4 k5 k6 lk1 lk3 lk5
  go_wp2_with fail
  refine (H1.out _).mono ?_
  rintro e W3 ⟨rfl, hb3⟩
  have k13 : W3.cell? ⟨w.heap.size, 0, none⟩ = some (.int .i64 a1) := kept1 k7 hb3
  have k14 : W3.cell? ⟨w.heap.size, 1, none⟩ = some (.int .i64 a2) := kept1 k8 hb3
  have k15 : W3.cell? ⟨w.heap.size + 1, 0, none⟩ = some (.int .i64 b1) := kept1 k9 hb3
  have k16 : W3.cell? ⟨w.heap.size + 1, 1, none⟩ = some (.int .i64 b2) := kept1 k10 hb3
  have k17 : W3.cell? ⟨w.heap.size + 1 + 1, 0, none⟩ = some (.int .i64 c1) := kept1 k11 hb3
  have k18 : W3.cell? ⟨w.heap.size + 1 + 1, 1, none⟩ = some (.int .i64 c2) := kept1 k12 hb3
  have lk13 : w.heap.size < W3.heap.size := block_lt_of_cell k13
  have lk15 : w.heap.size + 1 < W3.heap.size := block_lt_of_cell k15
  have lk17 : w.heap.size + 1 + 1 < W3.heap.size := block_lt_of_cell k17
  have hv3 : Below w.heap.size w W3 := bstep0 hv2 hb3
  clear hb3 hv2 k7 k8 k9 k10 k11 k12 lk7 lk9 lk11
  go_wp2_with fail
  refine (H2.out _).mono ?_
  rintro e W4 ⟨rfl, hb4⟩
  have k19 : W4.cell? ⟨w.heap.size, 0, none⟩ = some (.int .i64 a1) := kept_a1 k13 hb4
  have k20 : W4.cell? ⟨w.heap.size, 1, none⟩ = some (.int .i64 a2) := kept_a1 k14 hb4
  have k21 : W4.cell? ⟨w.heap.size + 1, 0, none⟩ = some (.int .i64 b1) := kept_a1 k15 hb4
  have k22 : W4.cell? ⟨w.heap.size + 1, 1, none⟩ = some (.int .i64 b2) := kept_a1 k16 hb4
  have k23 : W4.cell? ⟨w.heap.size + 1 + 1, 0, none⟩ = some (.int .i64 c1) := kept_a1 k17 hb4
  have k24 : W4.cell? ⟨w.heap.size + 1 + 1, 1, none⟩ = some (.int .i64 c2) := kept_a1 k18 hb4
  have k25 : W4.cell? ⟨W3.heap.size, 0, none⟩ = some (.int .i64 0) := kept1 (by simp [go_sem]) hb4
  have k26 : W4.cell? ⟨W3.heap.size, 1, none⟩ = some (.int .i64 0) := kept1 (by simp [go_sem]) hb4
  have lk19 : w.heap.size < W4.heap.size := block_lt_of_cell k19
  have lk21 : w.heap.size + 1 < W4.heap.size := block_lt_of_cell k21
  have lk23 : w.heap.size + 1 + 1 < W4.heap.size := block_lt_of_cell k23
  have lk25 : W3.heap.size < W4.heap.size := block_lt_of_cell k25
  have hv4 : Below w.heap.size w W4 := bstep1 hv3 hb4
  clear hb4 hv3 k13 k14 k15 k16 k17 k18 lk13 lk15 lk17
  go_wp2_with fail
  refine (H3.out _).mono ?_
  rintro e W5 ⟨rfl, hb5⟩
  have k27 : W5.cell? ⟨w.heap.size, 0, none⟩ = some (.int .i64 a1) := kept_a1 k19 hb5
  have k28 : W5.cell? ⟨w.heap.size, 1, none⟩ = some (.int .i64 a2) := kept_a1 k20 hb5
  have k29 : W5.cell? ⟨w.heap.size + 1, 0, none⟩ = some (.int .i64 b1) := kept_a1 k21 hb5
  have k30 : W5.cell? ⟨w.heap.size + 1, 1, none⟩ = some (.int .i64 b2) := kept_a1 k22 hb5
  have k31 : W5.cell? ⟨w.heap.size + 1 + 1, 0, none⟩ = some (.int .i64 c1) := kept_a1 k23 hb5
  have k32 : W5.cell? ⟨w.heap.size + 1 + 1, 1, none⟩ = some (.int .i64 c2) := kept_a1 k24 hb5
  have k33 : W5.cell? ⟨W3.heap.size, 0, none⟩ = some (.int .i64 0) := kept_a1 k25 hb5
  have k34 : W5.cell? ⟨W3.heap.size, 1, none⟩ = some (.int .i64 0) := kept_a1 k26 hb5
  have k35 : W5.cell? ⟨W4.heap.size, 0, none⟩ = some (.int .i64 0) := kept1 (by simp [go_sem]) hb5
  have k36 : W5.cell? ⟨W4.heap.size, 1, none⟩ = some (.int .i64 0) := kept1 (by simp [go_sem]) hb5
  have lk27 : w.heap.size < W5.heap.size := block_lt_of_cell k27
  have lk29 : w.heap.size + 1 < W5.heap.size := block_lt_of_cell k29
  have lk31 : w.heap.size + 1 + 1 < W5.heap.size := block_lt_of_cell k31
  have lk33 : W3.heap.size < W5.heap.size := block_lt_of_cell k33
  have lk35 : W4.heap.size < W5.heap.size := block_lt_of_cell k35
  have hv5 : Below w.heap.size w W5 := bstep1 hv4 hb5
  clear hb5 hv4 k19 k20 k21 k22 k23 k24 k25 k26 lk19 lk21 lk23 lk25
  go_wp2_with fail
  refine (M1.out _).mono ?_
  rintro e W6 ⟨rfl, hb6⟩
  have k37 : W6.cell? ⟨w.heap.size, 0, none⟩ = some (.int .i64 a1) := kept_a1 k27 hb6
  have k38 : W6.cell? ⟨w.heap.size, 1, none⟩ = some (.int .i64 a2) := kept_a1 k28 hb6
  have k39 : W6.cell? ⟨w.heap.size + 1, 0, none⟩ = some (.int .i64 b1) := kept_a1 k29 hb6
  have k40 : W6.cell? ⟨w.heap.size + 1, 1, none⟩ = some (.int .i64 b2) := kept_a1 k30 hb6
  have k41 : W6.cell? ⟨w.heap.size + 1 + 1, 0, none⟩ = some (.int .i64 c1) := kept_a1 k31 hb6
  have k42 : W6.cell? ⟨w.heap.size + 1 + 1, 1, none⟩ = some (.int .i64 c2) := kept_a1 k32 hb6
  have k43 : W6.cell? ⟨W3.heap.size, 0, none⟩ = some (.int .i64 0) := kept_a1 k33 hb6
  have k44 : W6.cell? ⟨W3.heap.size, 1, none⟩ = some (.int .i64 0) := kept_a1 k34 hb6
  have k45 : W6.cell? ⟨W4.heap.size, 0, none⟩ = some (.int .i64 0) := kept_a1 k35 hb6
  have k46 : W6.cell? ⟨W4.heap.size, 1, none⟩ = some (.int .i64 0) := kept_a1 k36 hb6
  have k47 : W6.cell? ⟨W5.heap.size, 0, none⟩ = some (.int .i64 y1) := kept1 (by simp [go_sem]) hb6
  have k48 : W6.cell? ⟨W5.heap.size, 1, none⟩ = some (.int .i64 y2) := kept1 (by simp [go_sem]) hb6
  have lk37 : w.heap.size < W6.heap.size := block_lt_of_cell k37
  have lk39 : w.heap.size + 1 < W6.heap.size := block_lt_of_cell k39
  have lk41 : w.heap.size + 1 + 1 < W6.heap.size := block_lt_of_cell k41
  have lk43 : W3.heap.size < W6.heap.size := block_lt_of_cell k43
  have lk45 : W4.heap.size < W6.heap.size := block_lt_of_cell k45
  have lk47 : W5.heap.size < W6.heap.size := block_lt_of_cell k47
  have hv6 : Below w.heap.size w W6 := bstep1 hv5 hb6
  clear hb6 hv5 k27 k28 k29 k30 k31 k32 k33 k34 k35 k36 lk27 lk29 lk31 lk33 lk35
  clear k45 k46 lk45
  go_wp2_with fail
  refine (M2.out _).mono ?_
  rintro e W7 ⟨rfl, hb7⟩
  have k49 : W7.cell? ⟨w.heap.size, 0, none⟩ = some (.int .i64 a1) := kept_a1 k37 hb7
  have k50 : W7.cell? ⟨w.heap.size, 1, none⟩ = some (.int .i64 a2) := kept_a1 k38 hb7
  have k51 : W7.cell? ⟨w.heap.size + 1, 0, none⟩ = some (.int .i64 b1) := kept_a1 k39 hb7
  have k52 : W7.cell? ⟨w.heap.size + 1, 1, none⟩ = some (.int .i64 b2) := kept_a1 k40 hb7
  have k53 : W7.cell? ⟨w.heap.size + 1 + 1, 0, none⟩ = some (.int .i64 c1) := kept_a1 k41 hb7
  have k54 : W7.cell? ⟨w.heap.size + 1 + 1, 1, none⟩ = some (.int .i64 c2) := kept_a1 k42 hb7
  have k55 : W7.cell? ⟨W3.heap.size, 0, none⟩ = some (.int .i64 0) := kept_a1 k43 hb7
  have k56 : W7.cell? ⟨W3.heap.size, 1, none⟩ = some (.int .i64 0) := kept_a1 k44 hb7
  have k57 : W7.cell? ⟨W5.heap.size, 0, none⟩ = some (.int .i64 y1) := kept_a1 k47 hb7
  have k58 : W7.cell? ⟨W5.heap.size, 1, none⟩ = some (.int .i64 y2) := kept_a1 k48 hb7
  have k59 : W7.cell? ⟨W6.heap.size, 0, none⟩ = some (.int .i64 z1) := kept1 (by simp [go_sem]) hb7
  have k60 : W7.cell? ⟨W6.heap.size, 1, none⟩ = some (.int .i64 z2) := kept1 (by simp [go_sem]) hb7
  have lk49 : w.heap.size < W7.heap.size := block_lt_of_cell k49
  have lk51 : w.heap.size + 1 < W7.heap.size := block_lt_of_cell k51
  have lk53 : w.heap.size + 1 + 1 < W7.heap.size := block_lt_of_cell k53
  have lk55 : W3.heap.size < W7.heap.size := block_lt_of_cell k55
  have lk57 : W5.heap.size < W7.heap.size := block_lt_of_cell k57
  have lk59 : W6.heap.size < W7.heap.size := block_lt_of_cell k59
  have hv7 : Below w.heap.size w W7 := bstep1 hv6 hb7
  clear hb7 hv6 k37 k38 k39 k40 k41 k42 k43 k44 k47 k48 lk37 lk39 lk41 lk43 lk47
  go_wp2_with fail
  refine (D1.out _).mono ?_
  rintro e W8 ⟨rfl, hb8⟩
  have k61 : W8.cell? ⟨w.heap.size, 0, none⟩ = some (.int .i64 a1) := kept_a1 k49 hb8
  have k62 : W8.cell? ⟨w.heap.size, 1, none⟩ = some (.int .i64 a2) := kept_a1 k50 hb8
  have k63 : W8.cell? ⟨w.heap.size + 1, 0, none⟩ = some (.int .i64 b1) := kept_a1 k51 hb8
  have k64 : W8.cell? ⟨w.heap.size + 1, 1, none⟩ = some (.int .i64 b2) := kept_a1 k52 hb8
  have k65 : W8.cell? ⟨w.heap.size + 1 + 1, 0, none⟩ = some (.int .i64 c1) := kept_a1 k53 hb8
  have k66 : W8.cell? ⟨w.heap.size + 1 + 1, 1, none⟩ = some (.int .i64 c2) := kept_a1 k54 hb8
  have k67 : W8.cell? ⟨W3.heap.size, 0, none⟩ = some (.int .i64 0) := kept_a1 k55 hb8
  have k68 : W8.cell? ⟨W3.heap.size, 1, none⟩ = some (.int .i64 0) := kept_a1 k56 hb8
  have k69 : W8.cell? ⟨W5.heap.size, 0, none⟩ = some (.int .i64 y1) := kept_a1 k57 hb8
  have k70 : W8.cell? ⟨W5.heap.size, 1, none⟩ = some (.int .i64 y2) := kept_a1 k58 hb8
  have k71 : W8.cell? ⟨W6.heap.size, 0, none⟩ = some (.int .i64 z1) := kept_a1 k59 hb8
  have k72 : W8.cell? ⟨W6.heap.size, 1, none⟩ = some (.int .i64 z2) := kept_a1 k60 hb8
  have lk61 : w.heap.size < W8.heap.size := block_lt_of_cell k61
  have lk63 : w.heap.size + 1 < W8.heap.size := block_lt_of_cell k63
  have lk65 : w.heap.size + 1 + 1 < W8.heap.size := block_lt_of_cell k65
  have lk67 : W3.heap.size < W8.heap.size := block_lt_of_cell k67
  have lk69 : W5.heap.size < W8.heap.size := block_lt_of_cell k69
  have lk71 : W6.heap.size < W8.heap.size := block_lt_of_cell k71
  have hv8 : Below w.heap.size w W8 := bstep1 hv7 hb8
  clear hb8 hv7 k49 k50 k51 k52 k53 k54 k55 k56 k57 k58 k59 k60 lk49 lk51 lk53 lk55 lk57 lk59
  go_wp2_with fail
  refine (M3.out _).mono ?_
  rintro e W9 ⟨rfl, hb9⟩
  have k73 : W9.cell? ⟨w.heap.size, 0, none⟩ = some (.int .i64 a1) := kept_a1 k61 hb9
  have k74 : W9.cell? ⟨w.heap.size, 1, none⟩ = some (.int .i64 a2) := kept_a1 k62 hb9
  have k75 : W9.cell? ⟨w.heap.size + 1, 0, none⟩ = some (.int .i64 b1) := kept_a1 k63 hb9
  have k76 : W9.cell? ⟨w.heap.size + 1, 1, none⟩ = some (.int .i64 b2) := kept_a1 k64 hb9
  have k77 : W9.cell? ⟨w.heap.size + 1 + 1, 0, none⟩ = some (.int .i64 c1) := kept_a1 k65 hb9
  have k78 : W9.cell? ⟨w.heap.size + 1 + 1, 1, none⟩ = some (.int .i64 c2) := kept_a1 k66 hb9
  have k79 : W9.cell? ⟨W3.heap.size, 0, none⟩ = some (.int .i64 0) := kept_a1 k67 hb9
  have k80 : W9.cell? ⟨W3.heap.size, 1, none⟩ = some (.int .i64 0) := kept_a1 k68 hb9
  have k81 : W9.cell? ⟨W5.heap.size, 0, none⟩ = some (.int .i64 y1) := kept_a1 k69 hb9
  have k82 : W9.cell? ⟨W5.heap.size, 1, none⟩ = some (.int .i64 y2) := kept_a1 k70 hb9
  have k83 : W9.cell? ⟨W6.heap.size, 0, none⟩ = some (.int .i64 z1) := kept_a1 k71 hb9
  have k84 : W9.cell? ⟨W6.heap.size, 1, none⟩ = some (.int .i64 z2) := kept_a1 k72 hb9
  have lk73 : w.heap.size < W9.heap.size := block_lt_of_cell k73
  have lk75 : w.heap.size + 1 < W9.heap.size := block_lt_of_cell k75
  have lk77 : w.heap.size + 1 + 1 < W9.heap.size := block_lt_of_cell k77
  have lk79 : W3.heap.size < W9.heap.size := block_lt_of_cell k79
  have lk81 : W5.heap.size < W9.heap.size := block_lt_of_cell k81
  have lk83 : W6.heap.size < W9.heap.size := block_lt_of_cell k83
  have hv9 : Below w.heap.size w W9 := bstep1 hv8 hb9
  clear hb9 hv8 k61 k62 k63 k64 k65 k66 k67 k68 k69 k70 k71 k72 lk61 lk63 lk65 lk67 lk69 lk71
  go_wp2_with fail
  refine (U1.out _).mono ?_
  rintro e W10 ⟨rfl, hb10⟩
  have k85 : W10.cell? ⟨w.heap.size, 0, none⟩ = some (.int .i64 a1) := kept_a1 k73 hb10
  have k86 : W10.cell? ⟨w.heap.size, 1, none⟩ = some (.int .i64 a2) := kept_a1 k74 hb10
  have k87 : W10.cell? ⟨w.heap.size + 1, 0, none⟩ = some (.int .i64 b1) := kept_a1 k75 hb10
  have k88 : W10.cell? ⟨w.heap.size + 1, 1, none⟩ = some (.int .i64 b2) := kept_a1 k76 hb10
  have k89 : W10.cell? ⟨w.heap.size + 1 + 1, 0, none⟩ = some (.int .i64 c1) := kept_a1 k77 hb10
  have k90 : W10.cell? ⟨w.heap.size + 1 + 1, 1, none⟩ = some (.int .i64 c2) := kept_a1 k78 hb10
  have k91 : W10.cell? ⟨W3.heap.size, 0, none⟩ = some (.int .i64 0) := kept_a1 k79 hb10
  have k92 : W10.cell? ⟨W3.heap.size, 1, none⟩ = some (.int .i64 0) := kept_a1 k80 hb10
  have k93 : W10.cell? ⟨W5.heap.size, 0, none⟩ = some (.int .i64 y1) := kept_a1 k81 hb10
  have k94 : W10.cell? ⟨W5.heap.size, 1, none⟩ = some (.int .i64 y2) := kept_a1 k82 hb10
  have k95 : W10.cell? ⟨W6.heap.size, 0, none⟩ = some (.int .i64 z1) := kept_a1 k83 hb10
  have k96 : W10.cell? ⟨W6.heap.size, 1, none⟩ = some (.int .i64 z2) := kept_a1 k84 hb10
  have k97 : W10.cell? ⟨W9.heap.size, 0, none⟩ = some (.int .i64 u1) := kept1 (by simp [go_sem]) hb10
  have k98 : W10.cell? ⟨W9.heap.size, 1, none⟩ = some (.int .i64 u2) := kept1 (by simp [go_sem]) hb10
  have lk85 : w.heap.size < W10.heap.size := block_lt_of_cell k85
  have lk87 : w.heap.size + 1 < W10.heap.size := block_lt_of_cell k87
  have lk89 : w.heap.size + 1 + 1 < W10.heap.size := block_lt_of_cell k89
  have lk91 : W3.heap.size < W10.heap.size := block_lt_of_cell k91
  have lk93 : W5.heap.size < W10.heap.size := block_lt_of_cell k93
  have lk95 : W6.heap.size < W10.heap.size := block_lt_of_cell k95
  have lk97 : W9.heap.size < W10.heap.size := block_lt_of_cell k97
  have hv10 : Below w.heap.size w W10 := bstep1 hv9 hb10
  clear hb10 hv9 k73 k74 k75 k76 k77 k78 k79 k80 k81 k82 k83 k84 lk73 lk75 lk77 lk79 lk81 lk83
  go_wp2_with fail
  refine (U2.out _).mono ?_
  rintro e W11 ⟨rfl, hb11⟩
  have k99 : W11.cell? ⟨w.heap.size, 0, none⟩ = some (.int .i64 a1) := kept_a1 k85 hb11
  have k100 : W11.cell? ⟨w.heap.size, 1, none⟩ = some (.int .i64 a2) := kept_a1 k86 hb11
  have k101 : W11.cell? ⟨w.heap.size + 1, 0, none⟩ = some (.int .i64 b1) := kept_a1 k87 hb11
  have k102 : W11.cell? ⟨w.heap.size + 1, 1, none⟩ = some (.int .i64 b2) := kept_a1 k88 hb11
  have k103 : W11.cell? ⟨w.heap.size + 1 + 1, 0, none⟩ = some (.int .i64 c1) := kept_a1 k89 hb11
  have k104 : W11.cell? ⟨w.heap.size + 1 + 1, 1, none⟩ = some (.int .i64 c2) := kept_a1 k90 hb11
  have k105 : W11.cell? ⟨W3.heap.size, 0, none⟩ = some (.int .i64 0) := kept_a1 k91 hb11
  have k106 : W11.cell? ⟨W3.heap.size, 1, none⟩ = some (.int .i64 0) := kept_a1 k92 hb11
  have k107 : W11.cell? ⟨W5.heap.size, 0, none⟩ = some (.int .i64 y1) := kept_a1 k93 hb11
  have k108 : W11.cell? ⟨W5.heap.size, 1, none⟩ = some (.int .i64 y2) := kept_a1 k94 hb11
  have k109 : W11.cell? ⟨W6.heap.size, 0, none⟩ = some (.int .i64 z1) := kept_a1 k95 hb11
  have k110 : W11.cell? ⟨W6.heap.size, 1, none⟩ = some (.int .i64 z2) := kept_a1 k96 hb11
  have k111 : W11.cell? ⟨W9.heap.size, 0, none⟩ = some (.int .i64 u1) := kept_a1 k97 hb11
  have k112 : W11.cell? ⟨W9.heap.size, 1, none⟩ = some (.int .i64 u2) := kept_a1 k98 hb11
  have k113 : W11.cell? ⟨W10.heap.size, 0, none⟩ = some (.int .i64 U.n) := kept1 (by simp [go_sem]) hb11
  have k114 : W11.cell? ⟨W10.heap.size, 1, none⟩ = some (.int .i64 U.d) := kept1 (by simp [go_sem]) hb11
  have lk99 : w.heap.size < W11.heap.size := block_lt_of_cell k99
  have lk101 : w.heap.size + 1 < W11.heap.size := block_lt_of_cell k101
  have lk103 : w.heap.size + 1 + 1 < W11.heap.size := block_lt_of_cell k103
  have lk105 : W3.heap.size < W11.heap.size := block_lt_of_cell k105
  have lk107 : W5.heap.size < W11.heap.size := block_lt_of_cell k107
  have lk109 : W6.heap.size < W11.heap.size := block_lt_of_cell k109
  have lk111 : W9.heap.size < W11.heap.size := block_lt_of_cell k111
  have lk113 : W10.heap.size < W11.heap.size := block_lt_of_cell k113
  have hv11 : Below w.heap.size w W11 := bstep1 hv10 hb11
  clear hb11 hv10 k85 k86 k87 k88 k89 k90 k91 k92 k93 k94 k95 k96 k97 k98 lk85 lk87 lk89 lk91 lk93 lk95 lk97
  go_wp2_with fail
  refine (M4.out _).mono ?_
  rintro e W12 ⟨rfl, hb12⟩
  have k115 : W12.cell? ⟨w.heap.size, 0, none⟩ = some (.int .i64 a1) := kept_a1 k99 hb12
  have k116 : W12.cell? ⟨w.heap.size, 1, none⟩ = some (.int .i64 a2) := kept_a1 k100 hb12
  have k117 : W12.cell? ⟨w.heap.size + 1, 0, none⟩ = some (.int .i64 b1) := kept_a1 k101 hb12
  have k118 : W12.cell? ⟨w.heap.size + 1, 1, none⟩ = some (.int .i64 b2) := kept_a1 k102 hb12
  have k119 : W12.cell? ⟨w.heap.size + 1 + 1, 0, none⟩ = some (.int .i64 c1) := kept_a1 k103 hb12
  have k120 : W12.cell? ⟨w.heap.size + 1 + 1, 1, none⟩ = some (.int .i64 c2) := kept_a1 k104 hb12
  have k121 : W12.cell? ⟨W3.heap.size, 0, none⟩ = some (.int .i64 0) := kept_a1 k105 hb12
  have k122 : W12.cell? ⟨W3.heap.size, 1, none⟩ = some (.int .i64 0) := kept_a1 k106 hb12
  have k123 : W12.cell? ⟨W5.heap.size, 0, none⟩ = some (.int .i64 y1) := kept_a1 k107 hb12
  have k124 : W12.cell? ⟨W5.heap.size, 1, none⟩ = some (.int .i64 y2) := kept_a1 k108 hb12
  have k125 : W12.cell? ⟨W6.heap.size, 0, none⟩ = some (.int .i64 z1) := kept_a1 k109 hb12
  have k126 : W12.cell? ⟨W6.heap.size, 1, none⟩ = some (.int .i64 z2) := kept_a1 k110 hb12
  have k127 : W12.cell? ⟨W9.heap.size, 0, none⟩ = some (.int .i64 u1) := kept_a1 k111 hb12
  have k128 : W12.cell? ⟨W9.heap.size, 1, none⟩ = some (.int .i64 u2) := kept_a1 k112 hb12
  have k129 : W12.cell? ⟨W10.heap.size, 0, none⟩ = some (.int .i64 U.n) := kept_a1 k113 hb12
  have k130 : W12.cell? ⟨W10.heap.size, 1, none⟩ = some (.int .i64 U.d) := kept_a1 k114 hb12
  have lk115 : w.heap.size < W12.heap.size := block_lt_of_cell k115
  have lk117 : w.heap.size + 1 < W12.heap.size := block_lt_of_cell k117
  have lk119 : w.heap.size + 1 + 1 < W12.heap.size := block_lt_of_cell k119
  have lk121 : W3.heap.size < W12.heap.size := block_lt_of_cell k121
  have lk123 : W5.heap.size < W12.heap.size := block_lt_of_cell k123
  have lk125 : W6.heap.size < W12.heap.size := block_lt_of_cell k125
  have lk127 : W9.heap.size < W12.heap.size := block_lt_of_cell k127
  have lk129 : W10.heap.size < W12.heap.size := block_lt_of_cell k129
  have hv12 : Below w.heap.size w W12 := bstep1 hv11 hb12
  clear hb12 hv11 k99 k100 k101 k102 k103 k104 k105 k106 k107 k108 k109 k110 k111 k112 k113 k114 lk99 lk101 lk103 lk105 lk107 lk109 lk111 lk113
  clear k127 k128 lk127
  clear k129 k130 lk129
  go_wp2_with fail
  refine (sanity_tab hT _ (below_alloc hv12 _)).mono ?_
  rintro e W13 ⟨rfl, hb13⟩
  have k131 : W13.cell? ⟨w.heap.size, 0, none⟩ = some (.int .i64 a1) := kept_a1 k115 hb13
  have k132 : W13.cell? ⟨w.heap.size, 1, none⟩ = some (.int .i64 a2) := kept_a1 k116 hb13
  have k133 : W13.cell? ⟨w.heap.size + 1, 0, none⟩ = some (.int .i64 b1) := kept_a1 k117 hb13
  have k134 : W13.cell? ⟨w.heap.size + 1, 1, none⟩ = some (.int .i64 b2) := kept_a1 k118 hb13
  have k135 : W13.cell? ⟨w.heap.size + 1 + 1, 0, none⟩ = some (.int .i64 c1) := kept_a1 k119 hb13
  have k136 : W13.cell? ⟨w.heap.size + 1 + 1, 1, none⟩ = some (.int .i64 c2) := kept_a1 k120 hb13
  have k137 : W13.cell? ⟨W3.heap.size, 0, none⟩ = some (.int .i64 0) := kept_a1 k121 hb13
  have k138 : W13.cell? ⟨W3.heap.size, 1, none⟩ = some (.int .i64 0) := kept_a1 k122 hb13
  have k139 : W13.cell? ⟨W5.heap.size, 0, none⟩ = some (.int .i64 y1) := kept_a1 k123 hb13
  have k140 : W13.cell? ⟨W5.heap.size, 1, none⟩ = some (.int .i64 y2) := kept_a1 k124 hb13
  have k141 : W13.cell? ⟨W6.heap.size, 0, none⟩ = some (.int .i64 z1) := kept_a1 k125 hb13
  have k142 : W13.cell? ⟨W6.heap.size, 1, none⟩ = some (.int .i64 z2) := kept_a1 k126 hb13
  have k143 : W13.cell? ⟨W12.heap.size, 0, none⟩ = some (.int .i64 0) := kept1 (by simp [go_sem]) hb13
  have k144 : W13.cell? ⟨W12.heap.size, 1, none⟩ = some (.int .i64 0) := kept1 (by simp [go_sem]) hb13
  have lk131 : w.heap.size < W13.heap.size := block_lt_of_cell k131
  have lk133 : w.heap.size + 1 < W13.heap.size := block_lt_of_cell k133
  have lk135 : w.heap.size + 1 + 1 < W13.heap.size := block_lt_of_cell k135
  have lk137 : W3.heap.size < W13.heap.size := block_lt_of_cell k137
  have lk139 : W5.heap.size < W13.heap.size := block_lt_of_cell k139
  have lk141 : W6.heap.size < W13.heap.size := block_lt_of_cell k141
  have lk143 : W12.heap.size < W13.heap.size := block_lt_of_cell k143
  have hv13 : Below w.heap.size w W13 := bstep1 hv12 hb13
  clear hb13 hv12 k115 k116 k117 k118 k119 k120 k121 k122 k123 k124 k125 k126 lk115 lk117 lk119 lk121 lk123 lk125
  go_wp2
  go_ret
  exact ⟨by first | rfl | simp, (by repeat (first | with_reducible exact Below.refl _ _ | with_reducible assumption | refine below_drewN ?_ _ | refine Below.drew ?_ | refine Below.alloc ?_ (by first | (simp; done) | (simp; omega) | omega) _ | refine Below.setCell ?_ (by first | (simp; done) | (simp; omega) | omega) _ | refine Below.trans ?_ (Below.mono (by assumption) (by first | (simp; done) | (simp; omega) | omega))))⟩

set_option maxRecDepth 100000 in
set_option maxHeartbeats 4000000 in
theorem field_33010q (a1 a2 b1 b2 c1 c2 z1 z2 u1 u2 : Int) (v U : Rt.Num) (KW : Hid (∀ W : World, Calls Tryd.prog 31 #[.agg #[.int .i64 a1, .int .i64 a2], .agg #[.int .i64 b1, .int .i64 b2]] W fun e w' => e = .returned (.bool false) ∧ Below W.heap.size W w')) (KV : Hid (∀ W : World, Calls Tryd.prog 22 #[.agg #[.int .i64 c1, .int .i64 c2]] W fun e w' => e = .returned (.bool true) ∧ Below W.heap.size W w')) (H1 : Hid (∀ W : World, Calls Tryd.prog 25 #[.agg #[.int .i64 a1, .int .i64 a2], .agg #[.int .i64 b1, .int .i64 b2]] W fun e w' => e = .returned (.tuple #[.agg #[.int .i64 0, .int .i64 0], .int .i64 3]) ∧ Below W.heap.size W w')) (H2 : Hid (∀ W : World, Calls Tryd.prog 25 #[.agg #[.int .i64 b1, .int .i64 b2], .agg #[.int .i64 a1, .int .i64 a2]] W fun e w' => e = .returned (.tuple #[.agg #[.int .i64 0, .int .i64 0], .int .i64 3]) ∧ Below W.heap.size W w')) (H3 : Hid (∀ W : World, Calls Tryd.prog 25 #[.agg #[.int .i64 b1, .int .i64 b2], .agg #[.int .i64 c1, .int .i64 c2]] W fun e w' => e = .returned (.tuple #[.agg #[.int .i64 0, .int .i64 0], .int .i64 3]) ∧ Below W.heap.size W w')) (M1 : Hid (∀ W : World, Calls Tryd.prog 27 #[.agg #[.int .i64 a1, .int .i64 a2], .agg #[.int .i64 b1, .int .i64 b2]] W fun e w' => e = .returned (.tuple #[.agg #[.int .i64 z1, .int .i64 z2], .int .i64 0]) ∧ Below W.heap.size W w')) (M2 : Hid (∀ W : World, Calls Tryd.prog 27 #[.agg #[.int .i64 b1, .int .i64 b2], .agg #[.int .i64 a1, .int .i64 a2]] W fun e w' => e = .returned (.tuple #[.agg #[.int .i64 z1, .int .i64 z2], .int .i64 0]) ∧ Below W.heap.size W w')) (hz : b1 ≠ 0) (D1 : Hid (∀ W : World, Calls Tryd.prog 28 #[.agg #[.int .i64 z1, .int .i64 z2], .agg #[.int .i64 b1, .int .i64 b2]] W fun e w' => e = .returned (.tuple #[.agg #[.int .i64 a1, .int .i64 a2], .int .i64 0]) ∧ Below W.heap.size W w')) (M3 : Hid (∀ W : World, Calls Tryd.prog 27 #[.agg #[.int .i64 b1, .int .i64 b2], .agg #[.int .i64 c1, .int .i64 c2]] W fun e w' => e = .returned (.tuple #[.agg #[.int .i64 u1, .int .i64 u2], .int .i64 0]) ∧ Below W.heap.size W w')) (U1 : Hid (∀ W : World, Calls Tryd.prog 27 #[.agg #[.int .i64 z1, .int .i64 z2], .agg #[.int .i64 c1, .int .i64 c2]] W fun e w' => e = .returned (.tuple #[.agg #[.int .i64 U.n, .int .i64 U.d], .int .i64 U.e]) ∧ Below W.heap.size W w')) (U2 : Hid (∀ W : World, Calls Tryd.prog 27 #[.agg #[.int .i64 a1, .int .i64 a2], .agg #[.int .i64 u1, .int .i64 u2]] W fun e w' => e = .returned (.tuple #[.agg #[.int .i64 U.n, .int .i64 U.d], .int .i64 U.e]) ∧ Below W.heap.size W w')) (M4 : Hid (∀ W : World, Calls Tryd.prog 27 #[.agg #[.int .i64 a1, .int .i64 a2], .agg #[.int .i64 c1, .int .i64 c2]] W fun e w' => e = .returned (.tuple #[.agg #[.int .i64 v.n, .int .i64 v.d], .int .i64 v.e]) ∧ Below W.heap.size W w')) (w : World) (hT : Hid (Tab w.heap.size w)) :
    Calls Tryd.prog 11 #[.agg #[.int .i64 a1, .int .i64 a2], .agg #[.int .i64 b1, .int .i64 b2], .agg #[.int .i64 c1, .int .i64 c2]] w fun e w' => e = .returned (.bool true) ∧ Below w.heap.size w w' := by
  go_enter Tryd.func11, Tryd.ntmps11
  go_wp2_with fail
  refine (KW.out _).mono ?_
  rintro e W1 ⟨rfl, hb1⟩
  have k1 : W1.cell? ⟨w.heap.size, 0, none⟩ = some (.int .i64 a1) := kept1 (by simp [go_sem]) hb1
  have k2 : W1.cell? ⟨w.heap.size, 1, none⟩ = some (.int .i64 a2) := kept1 (by simp [go_sem]) hb1
  have k3 : W1.cell? ⟨w.heap.size + 1, 0, none⟩ = some (.int .i64 b1) := kept1 (by simp [go_sem]) hb1
  have k4 : W1.cell? ⟨w.heap.size + 1, 1, none⟩ = some (.int .i64 b2) := kept1 (by simp [go_sem]) hb1
  have k5 : W1.cell? ⟨w.heap.size + 1 + 1, 0, none⟩ = some (.int .i64 c1) := kept1 (by simp [go_sem]) hb1
  have k6 : W1.cell? ⟨w.heap.size + 1 + 1, 1, none⟩ = some (.int .i64 c2) := kept1 (by simp [go_sem]) hb1
  have lk1 : w.heap.size < W1.heap.size := block_lt_of_cell k1
  have lk3 : w.heap.size + 1 < W1.heap.size := block_lt_of_cell k3
  have lk5 : w.heap.size + 1 + 1 < W1.heap.size := block_lt_of_cell k5
  have hv1 : Below w.heap.size w W1 := bstep3 (Below.refl _ _) hb1
  clear hb1  
  go_wp2_with fail
  refine (KV.out _).mono ?_
  rintro e W2 ⟨rfl, hb2⟩
  have k7 : W2.cell? ⟨w.heap.size, 0, none⟩ = some (.int .i64 a1) := kept1 k1 hb2
  have k8 : W2.cell? ⟨w.heap.size, 1, none⟩ = some (.int .i64 a2) := kept1 k2 hb2
  have k9 : W2.cell? ⟨w.heap.size + 1, 0, none⟩ = some (.int .i64 b1) := kept1 k3 hb2
  have k10 : W2.cell? ⟨w.heap.size + 1, 1, none⟩ = some (.int .i64 b2) := kept1 k4 hb2
  have k11 : W2.cell? ⟨w.heap.size + 1 + 1, 0, none⟩ = some (.int .i64 c1) := kept1 k5 hb2
  have k12 : W2.cell? ⟨w.heap.size + 1 + 1, 1, none⟩ = some (.int .i64 c2) := kept1 k6 hb2
  have lk7 : w.heap.size < W2.heap.size := block_lt_of_cell k7
  have lk9 : w.heap.size + 1 < W2.heap.size := block_lt_of_cell k9
  have lk11 : w.heap.size + 1 + 1 < W2.heap.size := block_lt_of_cell k11
  have hv2 : Below w.heap.size w W2 := bstep0 hv1 hb2
  clear hb2 hv1 k1 k2 k3 k4 k5 k6 lk1 lk3 lk5
  go_wp2_with fail
  refine (H1.out _).mono ?_
  rintro e W3 ⟨rfl, hb3⟩
  have k13 : W3.cell? ⟨w.heap.size, 0, none⟩ = some (.int .i64 a1) := kept1 k7 hb3
  have k14 : W3.cell? ⟨w.heap.size, 1, none⟩ = some (.int .i64 a2) := kept1 k8 hb3
  have k15 : W3.cell? ⟨w.heap.size + 1, 0, none⟩ = some (.int .i64 b1) := kept1 k9 hb3
  have k16 : W3.cell? ⟨w.heap.size + 1, 1, none⟩ = some (.int .i64 b2) := kept1 k10 hb3
  have k17 : W3.cell? ⟨w.heap.size + 1 + 1, 0, none⟩ = some (.int .i64 c1) := kept1 k11 hb3
  have k18 : W3.cell? ⟨w.heap.size + 1 + 1, 1, none⟩ = some (.int .i64 c2) := kept1 k12 hb3
  have lk13 : w.heap.size < W3.heap.size := block_lt_of_cell k13
  have lk15 : w.heap.size + 1 < W3.heap.size := block_lt_of_cell k15
  have lk17 : w.heap.size + 1 + 1 < W3.heap.size := block_lt_of_cell k17
  have hv3 : Below w.heap.size w W3 := bstep0 hv2 hb3
  clear hb3 hv2 k7 k8 k9 k10 k11 k12 lk7 lk9 lk11
  go_wp2_with fail
  refine (H2.out _).mono ?_
  rintro e W4 ⟨rfl, hb4⟩
  have k19 : W4.cell? ⟨w.heap.size, 0, none⟩ = some (.int .i64 a1) := kept_a1 k13 hb4
  have k20 : W4.cell? ⟨w.heap.size, 1, none⟩ = some (.int .i64 a2) := kept_a1 k14 hb4
  have k21 : W4.cell? ⟨w.heap.size + 1, 0, none⟩ = some (.int .i64 b1) := kept_a1 k15 hb4
  have k22 : W4.cell? ⟨w.heap.size + 1, 1, none⟩ = some (.int .i64 b2) := kept_a1 k16 hb4
  have k23 : W4.cell? ⟨w.heap.size + 1 + 1, 0, none⟩ = some (.int .i64 c1) := kept_a1 k17 hb4
  have k24 : W4.cell? ⟨w.heap.size + 1 + 1, 1, none⟩ = some (.int .i64 c2) := kept_a1 k18 hb4
  have k25 : W4.cell? ⟨W3.heap.size, 0, none⟩ = some (.int .i64 0) := kept1 (by simp [go_sem]) hb4
  have k26 : W4.cell? ⟨W3.heap.size, 1, none⟩ = some (.int .i64 0) := kept1 (by simp [go_sem]) hb4
  have lk19 : w.heap.size < W4.heap.size := block_lt_of_cell k19
  have lk21 : w.heap.size + 1 < W4.heap.size := block_lt_of_cell k21
  have lk23 : w.heap.size + 1 + 1 < W4.heap.size := block_lt_of_cell k23
  have lk25 : W3.heap.size < W4.heap.size := block_lt_of_cell k25
  have hv4 : Below w.heap.size w W4 := bstep1 hv3 hb4
  clear hb4 hv3 k13 k14 k15 k16 k17 k18 lk13 lk15 lk17
  go_wp2_with fail
  refine (H3.out _).mono ?_
  rintro e W5 ⟨rfl, hb5⟩
  have k27 : W5.cell? ⟨w.heap.size, 0, none⟩ = some (.int .i64 a1) := kept_a1 k19 hb5
  have k28 : W5.cell? ⟨w.heap.size, 1, none⟩ = some (.int .i64 a2) := kept_a1 k20 hb5
  have k29 : W5.cell? ⟨w.heap.size + 1, 0, none⟩ = some (.int .i64 b1) := kept_a1 k21 hb5
  have k30 : W5.cell? ⟨w.heap.size + 1, 1, none⟩ = some (.int .i64 b2) := kept_a1 k22 hb5
  have k31 : W5.cell? ⟨w.heap.size + 1 + 1, 0, none⟩ = some (.int .i64 c1) := kept_a1 k23 hb5
  have k32 : W5.cell? ⟨w.heap.size + 1 + 1, 1, none⟩ = some (.int .i64 c2) := kept_a1 k24 hb5
  have k33 : W5.cell? ⟨W3.heap.size, 0, none⟩ = some (.int .i64 0) := kept_a1 k25 hb5
  have k34 : W5.cell? ⟨W3.heap.size, 1, none⟩ = some (.int .i64 0) := kept_a1 k26 hb5
  have k35 : W5.cell? ⟨W4.heap.size, 0, none⟩ = some (.int .i64 0) := kept1 (by simp [go_sem]) hb5
  have k36 : W5.cell? ⟨W4.heap.size, 1, none⟩ = some (.int .i64 0) := kept1 (by simp [go_sem]) hb5
  have lk27 : w.heap.size < W5.heap.size := block_lt_of_cell k27
  have lk29 : w.heap.size + 1 < W5.heap.size := block_lt_of_cell k29
  have lk31 : w.heap.size + 1 + 1 < W5.heap.size := block_lt_of_cell k31
  have lk33 : W3.heap.size < W5.heap.size := block_lt_of_cell k33
  have lk35 : W4.heap.size < W5.heap.size := block_lt_of_cell k35
  have hv5 : Below w.heap.size w W5 := bstep1 hv4 hb5
  clear hb5 hv4 k19 k20 k21 k22 k23 k24 k25 k26 lk19 lk21 lk23 lk25
  go_wp2_with fail
  refine (M1.out _).mono ?_
  rintro e W6 ⟨rfl, hb6⟩
  have k37 : W6.cell? ⟨w.heap.size, 0, none⟩ = some (.int .i64 a1) := kept_a1 k27 hb6
  have k38 : W6.cell? ⟨w.heap.size, 1, none⟩ = some (.int .i64 a2) := kept_a1 k28 hb6
  have k39 : W6.cell? ⟨w.heap.size + 1, 0, none⟩ = some (.int .i64 b1) := kept_a1 k29 hb6
  have k40 : W6.cell? ⟨w.heap.size + 1, 1, none⟩ = some (.int .i64 b2) := kept_a1 k30 hb6
  have k41 : W6.cell? ⟨w.heap.size + 1 + 1, 0, none⟩ = some (.int .i64 c1) := kept_a1 k31 hb6
  have k42 : W6.cell? ⟨w.heap.size + 1 + 1, 1, none⟩ = some (.int .i64 c2) := kept_a1 k32 hb6
  have k43 : W6.cell? ⟨W3.heap.size, 0, none⟩ = some (.int .i64 0) := kept_a1 k33 hb6
  have k44 : W6.cell? ⟨W3.heap.size, 1, none⟩ = some (.int .i64 0) := kept_a1 k34 hb6
  have k45 : W6.cell? ⟨W4.heap.size, 0, none⟩ = some (.int .i64 0) := kept_a1 k35 hb6
  have k46 : W6.cell? ⟨W4.heap.size, 1, none⟩ = some (.int .i64 0) := kept_a1 k36 hb6
  have k47 : W6.cell? ⟨W5.heap.size, 0, none⟩ = some (.int .i64 0) := kept1 (by simp [go_sem]) hb6
  have k48 : W6.cell? ⟨W5.heap.size, 1, none⟩ = some (.int .i64 0) := kept1 (by simp [go_sem]) hb6
  have lk37 : w.heap.size < W6.heap.size := block_lt_of_cell k37
  have lk39 : w.heap.size + 1 < W6.heap.size := block_lt_of_cell k39
  have lk41 : w.heap.size + 1 + 1 < W6.heap.size := block_lt_of_cell k41
  have lk43 : W3.heap.size < W6.heap.size := block_lt_of_cell k43
  have lk45 : W4.heap.size < W6.heap.size := block_lt_of_cell k45
  have lk47 : W5.heap.size < W6.heap.size := block_lt_of_cell k47
  have hv6 : Below w.heap.size w W6 := bstep1 hv5 hb6
  clear hb6 hv5 k27 k28 k29 k30 k31 k32 k33 k34 k35 k36 lk27 lk29 lk31 lk33 lk35
  clear k45 k46 lk45
  go_wp2_with fail
  refine (M2.out _).mono ?_
  rintro e W7 ⟨rfl, hb7⟩
  have k49 : W7.cell? ⟨w.heap.size, 0, none⟩ = some (.int .i64 a1) := kept_a1 k37 hb7
  have k50 : W7.cell? ⟨w.heap.size, 1, none⟩ = some (.int .i64 a2) := kept_a1 k38 hb7
  have k51 : W7.cell? ⟨w.heap.size + 1, 0, none⟩ = some (.int .i64 b1) := kept_a1 k39 hb7
  have k52 : W7.cell? ⟨w.heap.size + 1, 1, none⟩ = some (.int .i64 b2) := kept_a1 k40 hb7
  have k53 : W7.cell? ⟨w.heap.size + 1 + 1, 0, none⟩ = some (.int .i64 c1) := kept_a1 k41 hb7
  have k54 : W7.cell? ⟨w.heap.size + 1 + 1, 1, none⟩ = some (.int .i64 c2) := kept_a1 k42 hb7
  have k55 : W7.cell? ⟨W3.heap.size, 0, none⟩ = some (.int .i64 0) := kept_a1 k43 hb7
  have k56 : W7.cell? ⟨W3.heap.size, 1, none⟩ = some (.int .i64 0) := kept_a1 k44 hb7
  have k57 : W7.cell? ⟨W5.heap.size, 0, none⟩ = some (.int .i64 0) := kept_a1 k47 hb7
  have k58 : W7.cell? ⟨W5.heap.size, 1, none⟩ = some (.int .i64 0) := kept_a1 k48 hb7
  have k59 : W7.cell? ⟨W6.heap.size, 0, none⟩ = some (.int .i64 z1) := kept1 (by simp [go_sem]) hb7
  have k60 : W7.cell? ⟨W6.heap.size, 1, none⟩ = some (.int .i64 z2) := kept1 (by simp [go_sem]) hb7
  have lk49 : w.heap.size < W7.heap.size := block_lt_of_cell k49
  have lk51 : w.heap.size + 1 < W7.heap.size := block_lt_of_cell k51
  have lk53 : w.heap.size + 1 + 1 < W7.heap.size := block_lt_of_cell k53
  have lk55 : W3.heap.size < W7.heap.size := block_lt_of_cell k55
  have lk57 : W5.heap.size < W7.heap.size := block_lt_of_cell k57
  have lk59 : W6.heap.size < W7.heap.size := block_lt_of_cell k59
  have hv7 : Below w.heap.size w W7 := bstep1 hv6 hb7
  clear hb7 hv6 k37 k38 k39 k40 k41 k42 k43 k44 k47 k48 lk37 lk39 lk41 lk43 lk47
  go_wp2_with fail
  refine (D1.out _).mono ?_
  rintro e W8 ⟨rfl, hb8⟩
  have k61 : W8.cell? ⟨w.heap.size, 0, none⟩ = some (.int .i64 a1) := kept_a1 k49 hb8
  have k62 : W8.cell? ⟨w.heap.size, 1, none⟩ = some (.int .i64 a2) := kept_a1 k50 hb8
  have k63 : W8.cell? ⟨w.heap.size + 1, 0, none⟩ = some (.int .i64 b1) := kept_a1 k51 hb8
  have k64 : W8.cell? ⟨w.heap.size + 1, 1, none⟩ = some (.int .i64 b2) := kept_a1 k52 hb8
  have k65 : W8.cell? ⟨w.heap.size + 1 + 1, 0, none⟩ = some (.int .i64 c1) := kept_a1 k53 hb8
  have k66 : W8.cell? ⟨w.heap.size + 1 + 1, 1, none⟩ = some (.int .i64 c2) := kept_a1 k54 hb8
  have k67 : W8.cell? ⟨W3.heap.size, 0, none⟩ = some (.int .i64 0) := kept_a1 k55 hb8
  have k68 : W8.cell? ⟨W3.heap.size, 1, none⟩ = some (.int .i64 0) := kept_a1 k56 hb8
  have k69 : W8.cell? ⟨W5.heap.size, 0, none⟩ = some (.int .i64 0) := kept_a1 k57 hb8
  have k70 : W8.cell? ⟨W5.heap.size, 1, none⟩ = some (.int .i64 0) := kept_a1 k58 hb8
  have k71 : W8.cell? ⟨W6.heap.size, 0, none⟩ = some (.int .i64 z1) := kept_a1 k59 hb8
  have k72 : W8.cell? ⟨W6.heap.size, 1, none⟩ = some (.int .i64 z2) := kept_a1 k60 hb8
  have lk61 : w.heap.size < W8.heap.size := block_lt_of_cell k61
  have lk63 : w.heap.size + 1 < W8.heap.size := block_lt_of_cell k63
  have lk65 : w.heap.size + 1 + 1 < W8.heap.size := block_lt_of_cell k65
  have lk67 : W3.heap.size < W8.heap.size := block_lt_of_cell k67
  have lk69 : W5.heap.size < W8.heap.size := block_lt_of_cell k69
  have lk71 : W6.heap.size < W8.heap.size := block_lt_of_cell k71
  have hv8 : Below w.heap.size w W8 := bstep1 hv7 hb8
  clear hb8 hv7 k49 k50 k51 k52 k53 k54 k55 k56 k57 k58 k59 k60 lk49 lk51 lk53 lk55 lk57 lk59
  go_wp2_with fail
  refine (M3.out _).mono ?_
  rintro e W9 ⟨rfl, hb9⟩
  have k73 : W9.cell? ⟨w.heap.size, 0, none⟩ = some (.int .i64 a1) := kept_a1 k61 hb9
  have k74 : W9.cell? ⟨w.heap.size, 1, none⟩ = some (.int .i64 a2) := kept_a1 k62 hb9
  have k75 : W9.cell? ⟨w.heap.size + 1, 0, none⟩ = some (.int .i64 b1) := kept_a1 k63 hb9
  have k76 : W9.cell? ⟨w.heap.size + 1, 1, none⟩ = some (.int .i64 b2) := kept_a1 k64 hb9
  have k77 : W9.cell? ⟨w.heap.size + 1 + 1, 0, none⟩ = some (.int .i64 c1) := kept_a1 k65 hb9
  have k78 : W9.cell? ⟨w.heap.size + 1 + 1, 1, none⟩ = some (.int .i64 c2) := kept_a1 k66 hb9
  have k79 : W9.cell? ⟨W3.heap.size, 0, none⟩ = some (.int .i64 0) := kept_a1 k67 hb9
  have k80 : W9.cell? ⟨W3.heap.size, 1, none⟩ = some (.int .i64 0) := kept_a1 k68 hb9
  have k81 : W9.cell? ⟨W5.heap.size, 0, none⟩ = some (.int .i64 0) := kept_a1 k69 hb9
  have k82 : W9.cell? ⟨W5.heap.size, 1, none⟩ = some (.int .i64 0) := kept_a1 k70 hb9
  have k83 : W9.cell? ⟨W6.heap.size, 0, none⟩ = some (.int .i64 z1) := kept_a1 k71 hb9
  have k84 : W9.cell? ⟨W6.heap.size, 1, none⟩ = some (.int .i64 z2) := kept_a1 k72 hb9
  have lk73 : w.heap.size < W9.heap.size := block_lt_of_cell k73
  have lk75 : w.heap.size + 1 < W9.heap.size := block_lt_of_cell k75
  have lk77 : w.heap.size + 1 + 1 < W9.heap.size := block_lt_of_cell k77
  have lk79 : W3.heap.size < W9.heap.size := block_lt_of_cell k79
  have lk81 : W5.heap.size < W9.heap.size := block_lt_of_cell k81
  have lk83 : W6.heap.size < W9.heap.size := block_lt_of_cell k83
  have hv9 : Below w.heap.size w W9 := bstep1 hv8 hb9
  clear hb9 hv8 k61 k62 k63 k64 k65 k66 k67 k68 k69 k70 k71 k72 lk61 lk63 lk65 lk67 lk69 lk71
  go_wp2_with fail
  refine (U1.out _).mono ?_
  rintro e W10 ⟨rfl, hb10⟩
  have k85 : W10.cell? ⟨w.heap.size, 0, none⟩ = some (.int .i64 a1) := kept_a1 k73 hb10
  have k86 : W10.cell? ⟨w.heap.size, 1, none⟩ = some (.int .i64 a2) := kept_a1 k74 hb10
  have k87 : W10.cell? ⟨w.heap.size + 1, 0, none⟩ = some (.int .i64 b1) := kept_a1 k75 hb10
  have k88 : W10.cell? ⟨w.heap.size + 1, 1, none⟩ = some (.int .i64 b2) := kept_a1 k76 hb10
  have k89 : W10.cell? ⟨w.heap.size + 1 + 1, 0, none⟩ = some (.int .i64 c1) := kept_a1 k77 hb10
  have k90 : W10.cell? ⟨w.heap.size + 1 + 1, 1, none⟩ = some (.int .i64 c2) := kept_a1 k78 hb10
  have k91 : W10.cell? ⟨W3.heap.size, 0, none⟩ = some (.int .i64 0) := kept_a1 k79 hb10
  have k92 : W10.cell? ⟨W3.heap.size, 1, none⟩ = some (.int .i64 0) := kept_a1 k80 hb10
  have k93 : W10.cell? ⟨W5.heap.size, 0, none⟩ = some (.int .i64 0) := kept_a1 k81 hb10
  have k94 : W10.cell? ⟨W5.heap.size, 1, none⟩ = some (.int .i64 0) := kept_a1 k82 hb10
  have k95 : W10.cell? ⟨W6.heap.size, 0, none⟩ = some (.int .i64 z1) := kept_a1 k83 hb10
  have k96 : W10.cell? ⟨W6.heap.size, 1, none⟩ = some (.int .i64 z2) := kept_a1 k84 hb10
  have k97 : W10.cell? ⟨W9.heap.size, 0, none⟩ = some (.int .i64 u1) := kept1 (by simp [go_sem]) hb10
  have k98 : W10.cell? ⟨W9.heap.size, 1, none⟩ = some (.int .i64 u2) := kept1 (by simp [go_sem]) hb10
  have lk85 : w.heap.size < W10.heap.size := block_lt_of_cell k85
  have lk87 : w.heap.size + 1 < W10.heap.size := block_lt_of_cell k87
  have lk89 : w.heap.size + 1 + 1 < W10.heap.size := block_lt_of_cell k89
  have lk91 : W3.heap.size < W10.heap.size := block_lt_of_cell k91
  have lk93 : W5.heap.size < W10.heap.size := block_lt_of_cell k93
  have lk95 : W6.heap.size < W10.heap.size := block_lt_of_cell k95
  have lk97 : W9.heap.size < W10.heap.size := block_lt_of_cell k97
  have hv10 : Below w.heap.size w W10 := bstep1 hv9 hb10
  clear hb10 hv9 k73 k74 k75 k76 k77 k78 k79 k80 k81 k82 k83 k84 lk73 lk75 lk77 lk79 lk81 lk83
  go_wp2_with fail
  refine (U2.out _).mono ?_
  rintro e W11 ⟨rfl, hb11⟩
  have k99 : W11.cell? ⟨w.heap.size, 0, none⟩ = some (.int .i64 a1) := kept_a1 k85 hb11
  have k100 : W11.cell? ⟨w.heap.size, 1, none⟩ = some (.int .i64 a2) := kept_a1 k86 hb11
  have k101 : W11.cell? ⟨w.heap.size + 1, 0, none⟩ = some (.int .i64 b1) := kept_a1 k87 hb11
  have k102 : W11.cell? ⟨w.heap.size + 1, 1, none⟩ = some (.int .i64 b2) := kept_a1 k88 hb11
  have k103 : W11.cell? ⟨w.heap.size + 1 + 1, 0, none⟩ = some (.int .i64 c1) := kept_a1 k89 hb11
  have k104 : W11.cell? ⟨w.heap.size + 1 + 1, 1, none⟩ = some (.int .i64 c2) := kept_a1 k90 hb11
  have k105 : W11.cell? ⟨W3.heap.size, 0, none⟩ = some (.int .i64 0) := kept_a1 k91 hb11
  have k106 : W11.cell? ⟨W3.heap.size, 1, none⟩ = some (.int .i64 0) := kept_a1 k92 hb11
  have k107 : W11.cell? ⟨W5.heap.size, 0, none⟩ = some (.int .i64 0) := kept_a1 k93 hb11
  have k108 : W11.cell? ⟨W5.heap.size, 1, none⟩ = some (.int .i64 0) := kept_a1 k94 hb11
  have k109 : W11.cell? ⟨W6.heap.size, 0, none⟩ = some (.int .i64 z1) := kept_a1 k95 hb11
  have k110 : W11.cell? ⟨W6.heap.size, 1, none⟩ = some (.int .i64 z2) := kept_a1 k96 hb11
  have k111 : W11.cell? ⟨W9.heap.size, 0, none⟩ = some (.int .i64 u1) := kept_a1 k97 hb11
  have k112 : W11.cell? ⟨W9.heap.size, 1, none⟩ = some (.int .i64 u2) := kept_a1 k98 hb11
  have k113 : W11.cell? ⟨W10.heap.size, 0, none⟩ = some (.int .i64 U.n) := kept1 (by simp [go_sem]) hb11
  have k114 : W11.cell? ⟨W10.heap.size, 1, none⟩ = some (.int .i64 U.d) := kept1 (by simp [go_sem]) hb11
  have lk99 : w.heap.size < W11.heap.size := block_lt_of_cell k99
  have lk101 : w.heap.size + 1 < W11.heap.size := block_lt_of_cell k101
  have lk103 : w.heap.size + 1 + 1 < W11.heap.size := block_lt_of_cell k103
  have lk105 : W3.heap.size < W11.heap.size := block_lt_of_cell k105
  have lk107 : W5.heap.size < W11.heap.size := block_lt_of_cell k107
  have lk109 : W6.heap.size < W11.heap.size := block_lt_of_cell k109
  have lk111 : W9.heap.size < W11.heap.size := block_lt_of_cell k111
  have lk113 : W10.heap.size < W11.heap.size := block_lt_of_cell k113
  have hv11 : Below w.heap.size w W11 := bstep1 hv10 hb11
  clear hb11 hv10 k85 k86 k87 k88 k89 k90 k91 k92 k93 k94 k95 k96 k97 k98 lk85 lk87 lk89 lk91 lk93 lk95 lk97
  go_wp2_with fail
  refine (M4.out _).mono ?_
  rintro e W12 ⟨rfl, hb12⟩
  have k115 : W12.cell? ⟨w.heap.size, 0, none⟩ = some (.int .i64 a1) := kept_a1 k99 hb12
  have k116 : W12.cell? ⟨w.heap.size, 1, none⟩ = some (.int .i64 a2) := kept_a1 k100 hb12
  have k117 : W12.cell? ⟨w.heap.size + 1, 0, none⟩ = some (.int .i64 b1) := kept_a1 k101 hb12
  have k118 : W12.cell? ⟨w.heap.size + 1, 1, none⟩ = some (.int .i64 b2) := kept_a1 k102 hb12
  have k119 : W12.cell? ⟨w.heap.size + 1 + 1, 0, none⟩ = some (.int .i64 c1) := kept_a1 k103 hb12
  have k120 : W12.cell? ⟨w.heap.size + 1 + 1, 1, none⟩ = some (.int .i64 c2) := kept_a1 k104 hb12
  have k121 : W12.cell? ⟨W3.heap.size, 0, none⟩ = some (.int .i64 0) := kept_a1 k105 hb12
  have k122 : W12.cell? ⟨W3.heap.size, 1, none⟩ = some (.int .i64 0) := kept_a1 k106 hb12
  have k123 : W12.cell? ⟨W5.heap.size, 0, none⟩ = some (.int .i64 0) := kept_a1 k107 hb12
  have k124 : W12.cell? ⟨W5.heap.size, 1, none⟩ = some (.int .i64 0) := kept_a1 k108 hb12
  have k125 : W12.cell? ⟨W6.heap.size, 0, none⟩ = some (.int .i64 z1) := kept_a1 k109 hb12
  have k126 : W12.cell? ⟨W6.heap.size, 1, none⟩ = some (.int .i64 z2) := kept_a1 k110 hb12
  have k127 : W12.cell? ⟨W9.heap.size, 0, none⟩ = some (.int .i64 u1) := kept_a1 k111 hb12
  have k128 : W12.cell? ⟨W9.heap.size, 1, none⟩ = some (.int .i64 u2) := kept_a1 k112 hb12
  have k129 : W12.cell? ⟨W10.heap.size, 0, none⟩ = some (.int .i64 U.n) := kept_a1 k113 hb12
  have k130 : W12.cell? ⟨W10.heap.size, 1, none⟩ = some (.int .i64 U.d) := kept_a1 k114 hb12
  have lk115 : w.heap.size < W12.heap.size := block_lt_of_cell k115
  have lk117 : w.heap.size + 1 < W12.heap.size := block_lt_of_cell k117
  have lk119 : w.heap.size + 1 + 1 < W12.heap.size := block_lt_of_cell k119
  have lk121 : W3.heap.size < W12.heap.size := block_lt_of_cell k121
  have lk123 : W5.heap.size < W12.heap.size := block_lt_of_cell k123
  have lk125 : W6.heap.size < W12.heap.size := block_lt_of_cell k125
  have lk127 : W9.heap.size < W12.heap.size := block_lt_of_cell k127
  have lk129 : W10.heap.size < W12.heap.size := block_lt_of_cell k129
  have hv12 : Below w.heap.size w W12 := bstep1 hv11 hb12
  clear hb12 hv11 k99 k100 k101 k102 k103 k104 k105 k106 k107 k108 k109 k110 k111 k112 k113 k114 lk99 lk101 lk103 lk105 lk107 lk109 lk111 lk113
  clear k127 k128 lk127
  clear k129 k130 lk129
  go_wp2_with fail
  refine (sanity_tab hT _ (below_alloc hv12 _)).mono ?_
  rintro e W13 ⟨rfl, hb13⟩
  have k131 : W13.cell? ⟨w.heap.size, 0, none⟩ = some (.int .i64 a1) := kept_a1 k115 hb13
  have k132 : W13.cell? ⟨w.heap.size, 1, none⟩ = some (.int .i64 a2) := kept_a1 k116 hb13
  have k133 : W13.cell? ⟨w.heap.size + 1, 0, none⟩ = some (.int .i64 b1) := kept_a1 k117 hb13
  have k134 : W13.cell? ⟨w.heap.size + 1, 1, none⟩ = some (.int .i64 b2) := kept_a1 k118 hb13
  have k135 : W13.cell? ⟨w.heap.size + 1 + 1, 0, none⟩ = some (.int .i64 c1) := kept_a1 k119 hb13
  have k136 : W13.cell? ⟨w.heap.size + 1 + 1, 1, none⟩ = some (.int .i64 c2) := kept_a1 k120 hb13
  have k137 : W13.cell? ⟨W3.heap.size, 0, none⟩ = some (.int .i64 0) := kept_a1 k121 hb13
  have k138 : W13.cell? ⟨W3.heap.size, 1, none⟩ = some (.int .i64 0) := kept_a1 k122 hb13
  have k139 : W13.cell? ⟨W5.heap.size, 0, none⟩ = some (.int .i64 0) := kept_a1 k123 hb13
  have k140 : W13.cell? ⟨W5.heap.size, 1, none⟩ = some (.int .i64 0) := kept_a1 k124 hb13
  have k141 : W13.cell? ⟨W6.heap.size, 0, none⟩ = some (.int .i64 z1) := kept_a1 k125 hb13
  have k142 : W13.cell? ⟨W6.heap.size, 1, none⟩ = some (.int .i64 z2) := kept_a1 k126 hb13
  have k143 : W13.cell? ⟨W12.heap.size, 0, none⟩ = some (.int .i64 v.n) := kept1 (by simp [go_sem]) hb13
  have k144 : W13.cell? ⟨W12.heap.size, 1, none⟩ = some (.int .i64 v.d) := kept1 (by simp [go_sem]) hb13
  have lk131 : w.heap.size < W13.heap.size := block_lt_of_cell k131
  have lk133 : w.heap.size + 1 < W13.heap.size := block_lt_of_cell k133
  have lk135 : w.heap.size + 1 + 1 < W13.heap.size := block_lt_of_cell k135
  have lk137 : W3.heap.size < W13.heap.size := block_lt_of_cell k137
  have lk139 : W5.heap.size < W13.heap.size := block_lt_of_cell k139
  have lk141 : W6.heap.size < W13.heap.size := block_lt_of_cell k141
  have lk143 : W12.heap.size < W13.heap.size := block_lt_of_cell k143
  have hv13 : Below w.heap.size w W13 := bstep1 hv12 hb13
  clear hb13 hv12 k115 k116 k117 k118 k119 k120 k121 k122 k123 k124 k125 k126 lk115 lk117 lk119 lk121 lk123 lk125
  go_wp2
  go_ret
  exact ⟨by first | rfl | simp, (by repeat (first | with_reducible exact Below.refl _ _ | with_reducible assumption | refine below_drewN ?_ _ | refine Below.drew ?_ | refine Below.alloc ?_ (by first | (simp; done) | (simp; omega) | omega) _ | refine Below.setCell ?_ (by first | (simp; done) | (simp; omega) | omega) _ | refine Below.trans ?_ (Below.mono (by assumption) (by first | (simp; done) | (simp; omega) | omega))))⟩

end Go.Proofs.YtpbomeoonknifaaDoor
