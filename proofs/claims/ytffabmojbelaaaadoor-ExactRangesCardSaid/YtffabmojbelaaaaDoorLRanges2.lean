/- The law ExactRanges, a case. -/
import Derived.Test.YtffabmojbelaaaaDoorLRanges0
namespace Go.Proofs.YtffabmojbelaaaaDoor
open Go.RowKit Go.Shelf

set_option maxRecDepth 100000 in
set_option maxHeartbeats 8000000 in
theorem ranges_TFTF (a b c d p q r s i j v1 v2 v3 v4 te lo hi : Int) (t : Bool) (KX : Hid (∀ W : World, Calls Tryd.prog 50 #[.agg #[.int .i64 a, .int .i64 b, .int .i64 c, .int .i64 d]] W fun e w' => e = .returned (.bool true) ∧ Below W.heap.size W w')) (KY : Hid (∀ W : World, Calls Tryd.prog 50 #[.agg #[.int .i64 p, .int .i64 q, .int .i64 r, .int .i64 s]] W fun e w' => e = .returned (.bool false) ∧ Below W.heap.size W w')) (KA : Hid (∀ W : World, Calls Tryd.prog 22 #[.agg #[.int .i64 i, .int .i64 j]] W fun e w' => e = .returned (.bool true) ∧ Below W.heap.size W w')) (EX : Hid (∀ W : World, Calls Tryd.prog 54 #[.agg #[.int .i64 a, .int .i64 b, .int .i64 c, .int .i64 d]] W fun e w' => e = .returned (.bool true) ∧ Below W.heap.size W w')) (EH : Hid (∀ W : World, Calls Tryd.prog 55 #[.agg #[.int .i64 a, .int .i64 b, .int .i64 c, .int .i64 d], .agg #[.int .i64 i, .int .i64 j]] W fun e w' => e = .returned (.bool t) ∧ Below W.heap.size W w')) (KH : Hid (∀ W : World, Calls Tryd.prog 56 #[.agg #[.int .i64 a, .int .i64 b, .int .i64 c, .int .i64 d], .agg #[.int .i64 i, .int .i64 j]] W fun e w' => e = .returned (.bool t) ∧ Below W.heap.size W w')) (EM : Hid (∀ W : World, Calls Tryd.prog 57 #[.agg #[.int .i64 a, .int .i64 b, .int .i64 c, .int .i64 d], .agg #[.int .i64 p, .int .i64 q, .int .i64 r, .int .i64 s]] W fun e' w' => e' = .returned (.tuple #[.agg #[.int .i64 0, .int .i64 0, .int .i64 0, .int .i64 0], .int .i64 1]) ∧ Below W.heap.size W w')) (EU : Hid (∀ W : World, Calls Tryd.prog 58 #[.agg #[.int .i64 a, .int .i64 b, .int .i64 c, .int .i64 d], .agg #[.int .i64 p, .int .i64 q, .int .i64 r, .int .i64 s]] W fun e w' => e = .returned (.tuple #[.agg #[.int .i64 0, .int .i64 0, .int .i64 0, .int .i64 0], .int .i64 1]) ∧ Below W.heap.size W w')) (ES : Hid (∀ W : World, Calls Tryd.prog 59 #[.agg #[.int .i64 a, .int .i64 b, .int .i64 c, .int .i64 d], .agg #[.int .i64 p, .int .i64 q, .int .i64 r, .int .i64 s]] W fun e w' => e = .returned (.tuple #[.agg #[.int .i64 0, .int .i64 0, .int .i64 0, .int .i64 0], .int .i64 1]) ∧ Below W.heap.size W w')) (ET : Hid (∀ W : World, Calls Tryd.prog 60 #[.agg #[.int .i64 a, .int .i64 b, .int .i64 c, .int .i64 d], .agg #[.int .i64 i, .int .i64 j]] W fun e w' => e = .returned (.tuple #[.agg #[.int .i64 v1, .int .i64 v2, .int .i64 v3, .int .i64 v4], .int .i64 te]) ∧ Below W.heap.size W w')) (EV : Hid (∀ W : World, Calls Tryd.prog 61 #[.agg #[.int .i64 a, .int .i64 b, .int .i64 c, .int .i64 d]] W fun e w' => e = .returned (.tuple #[.agg #[.int .i64 0, .int .i64 0], .int .i64 5]) ∧ Below W.heap.size W w')) (KT : Hid (∀ W : World, Calls Tryd.prog 66 #[.agg #[.int .i64 a, .int .i64 b, .int .i64 c, .int .i64 d], .agg #[.int .i64 i, .int .i64 j]] W fun e w' => e = .returned (.agg #[.int .i64 v1, .int .i64 v2, .int .i64 v3, .int .i64 v4, .int .i64 te]) ∧ Below W.heap.size W w')) (KV : Hid (∀ W : World, Calls Tryd.prog 67 #[.agg #[.int .i64 a, .int .i64 b, .int .i64 c, .int .i64 d]] W fun e w' => e = .returned (.tuple #[.agg #[.int .i64 lo, .int .i64 hi], .bool false]) ∧ Below W.heap.size W w')) (w : World) (hT : Hid (Tab w.heap.size w)) :
    Calls Tryd.prog 9 #[.agg #[.int .i64 a, .int .i64 b, .int .i64 c, .int .i64 d], .agg #[.int .i64 p, .int .i64 q, .int .i64 r, .int .i64 s], .agg #[.int .i64 i, .int .i64 j]] w fun e w' => e = .returned (.bool true) ∧ Below w.heap.size w w' := by
  go_enter Tryd.func9, Tryd.ntmps9
  go_wp2_with fail
  refine (KX.out _).mono ?_
  rintro e W1 ⟨rfl, hb1⟩
  have k1 : W1.cell? ⟨w.heap.size, 0, none⟩ = some (.int .i64 a) := kept1 (by simp [go_sem]) hb1
  have k2 : W1.cell? ⟨w.heap.size, 1, none⟩ = some (.int .i64 b) := kept1 (by simp [go_sem]) hb1
  have k3 : W1.cell? ⟨w.heap.size, 2, none⟩ = some (.int .i64 c) := kept1 (by simp [go_sem]) hb1
  have k4 : W1.cell? ⟨w.heap.size, 3, none⟩ = some (.int .i64 d) := kept1 (by simp [go_sem]) hb1
  have k5 : W1.cell? ⟨w.heap.size + 1, 0, none⟩ = some (.int .i64 p) := kept1 (by simp [go_sem]) hb1
  have k6 : W1.cell? ⟨w.heap.size + 1, 1, none⟩ = some (.int .i64 q) := kept1 (by simp [go_sem]) hb1
  have k7 : W1.cell? ⟨w.heap.size + 1, 2, none⟩ = some (.int .i64 r) := kept1 (by simp [go_sem]) hb1
  have k8 : W1.cell? ⟨w.heap.size + 1, 3, none⟩ = some (.int .i64 s) := kept1 (by simp [go_sem]) hb1
  have k9 : W1.cell? ⟨w.heap.size + 1 + 1, 0, none⟩ = some (.int .i64 i) := kept1 (by simp [go_sem]) hb1
  have k10 : W1.cell? ⟨w.heap.size + 1 + 1, 1, none⟩ = some (.int .i64 j) := kept1 (by simp [go_sem]) hb1
  have lk1 : w.heap.size < W1.heap.size := block_lt_of_cell k1
  have lk5 : w.heap.size + 1 < W1.heap.size := block_lt_of_cell k5
  have lk9 : w.heap.size + 1 + 1 < W1.heap.size := block_lt_of_cell k9
  have hv1 : Below w.heap.size w W1 := bstep3 (Below.refl _ _) hb1
  clear hb1  
  go_wp2_with fail
  refine (KY.out _).mono ?_
  rintro e W2 ⟨rfl, hb2⟩
  have k11 : W2.cell? ⟨w.heap.size, 0, none⟩ = some (.int .i64 a) := kept1 k1 hb2
  have k12 : W2.cell? ⟨w.heap.size, 1, none⟩ = some (.int .i64 b) := kept1 k2 hb2
  have k13 : W2.cell? ⟨w.heap.size, 2, none⟩ = some (.int .i64 c) := kept1 k3 hb2
  have k14 : W2.cell? ⟨w.heap.size, 3, none⟩ = some (.int .i64 d) := kept1 k4 hb2
  have k15 : W2.cell? ⟨w.heap.size + 1, 0, none⟩ = some (.int .i64 p) := kept1 k5 hb2
  have k16 : W2.cell? ⟨w.heap.size + 1, 1, none⟩ = some (.int .i64 q) := kept1 k6 hb2
  have k17 : W2.cell? ⟨w.heap.size + 1, 2, none⟩ = some (.int .i64 r) := kept1 k7 hb2
  have k18 : W2.cell? ⟨w.heap.size + 1, 3, none⟩ = some (.int .i64 s) := kept1 k8 hb2
  have k19 : W2.cell? ⟨w.heap.size + 1 + 1, 0, none⟩ = some (.int .i64 i) := kept1 k9 hb2
  have k20 : W2.cell? ⟨w.heap.size + 1 + 1, 1, none⟩ = some (.int .i64 j) := kept1 k10 hb2
  have lk11 : w.heap.size < W2.heap.size := block_lt_of_cell k11
  have lk15 : w.heap.size + 1 < W2.heap.size := block_lt_of_cell k15
  have lk19 : w.heap.size + 1 + 1 < W2.heap.size := block_lt_of_cell k19
  have hv2 : Below w.heap.size w W2 := bstep0 hv1 hb2
  clear hb2 hv1 k1 k2 k3 k4 k5 k6 k7 k8 k9 k10 lk1 lk5 lk9
  go_wp2_with fail
  refine (KA.out _).mono ?_
  rintro e W3 ⟨rfl, hb3⟩
  have k21 : W3.cell? ⟨w.heap.size, 0, none⟩ = some (.int .i64 a) := kept1 k11 hb3
  have k22 : W3.cell? ⟨w.heap.size, 1, none⟩ = some (.int .i64 b) := kept1 k12 hb3
  have k23 : W3.cell? ⟨w.heap.size, 2, none⟩ = some (.int .i64 c) := kept1 k13 hb3
  have k24 : W3.cell? ⟨w.heap.size, 3, none⟩ = some (.int .i64 d) := kept1 k14 hb3
  have k25 : W3.cell? ⟨w.heap.size + 1, 0, none⟩ = some (.int .i64 p) := kept1 k15 hb3
  have k26 : W3.cell? ⟨w.heap.size + 1, 1, none⟩ = some (.int .i64 q) := kept1 k16 hb3
  have k27 : W3.cell? ⟨w.heap.size + 1, 2, none⟩ = some (.int .i64 r) := kept1 k17 hb3
  have k28 : W3.cell? ⟨w.heap.size + 1, 3, none⟩ = some (.int .i64 s) := kept1 k18 hb3
  have k29 : W3.cell? ⟨w.heap.size + 1 + 1, 0, none⟩ = some (.int .i64 i) := kept1 k19 hb3
  have k30 : W3.cell? ⟨w.heap.size + 1 + 1, 1, none⟩ = some (.int .i64 j) := kept1 k20 hb3
  have lk21 : w.heap.size < W3.heap.size := block_lt_of_cell k21
  have lk25 : w.heap.size + 1 < W3.heap.size := block_lt_of_cell k25
  have lk29 : w.heap.size + 1 + 1 < W3.heap.size := block_lt_of_cell k29
  have hv3 : Below w.heap.size w W3 := bstep0 hv2 hb3
  clear hb3 hv2 k11 k12 k13 k14 k15 k16 k17 k18 k19 k20 lk11 lk15 lk19
  go_wp2_with fail
  refine (EX.out _).mono ?_
  rintro e W4 ⟨rfl, hb4⟩
  have k31 : W4.cell? ⟨w.heap.size, 0, none⟩ = some (.int .i64 a) := kept1 k21 hb4
  have k32 : W4.cell? ⟨w.heap.size, 1, none⟩ = some (.int .i64 b) := kept1 k22 hb4
  have k33 : W4.cell? ⟨w.heap.size, 2, none⟩ = some (.int .i64 c) := kept1 k23 hb4
  have k34 : W4.cell? ⟨w.heap.size, 3, none⟩ = some (.int .i64 d) := kept1 k24 hb4
  have k35 : W4.cell? ⟨w.heap.size + 1, 0, none⟩ = some (.int .i64 p) := kept1 k25 hb4
  have k36 : W4.cell? ⟨w.heap.size + 1, 1, none⟩ = some (.int .i64 q) := kept1 k26 hb4
  have k37 : W4.cell? ⟨w.heap.size + 1, 2, none⟩ = some (.int .i64 r) := kept1 k27 hb4
  have k38 : W4.cell? ⟨w.heap.size + 1, 3, none⟩ = some (.int .i64 s) := kept1 k28 hb4
  have k39 : W4.cell? ⟨w.heap.size + 1 + 1, 0, none⟩ = some (.int .i64 i) := kept1 k29 hb4
  have k40 : W4.cell? ⟨w.heap.size + 1 + 1, 1, none⟩ = some (.int .i64 j) := kept1 k30 hb4
  have lk31 : w.heap.size < W4.heap.size := block_lt_of_cell k31
  have lk35 : w.heap.size + 1 < W4.heap.size := block_lt_of_cell k35
  have lk39 : w.heap.size + 1 + 1 < W4.heap.size := block_lt_of_cell k39
  have hv4 : Below w.heap.size w W4 := bstep0 hv3 hb4
  clear hb4 hv3 k21 k22 k23 k24 k25 k26 k27 k28 k29 k30 lk21 lk25 lk29
  go_wp2_with fail
  refine (EH.out _).mono ?_
  rintro e W5 ⟨rfl, hb5⟩
  have k41 : W5.cell? ⟨w.heap.size, 0, none⟩ = some (.int .i64 a) := kept1 k31 hb5
  have k42 : W5.cell? ⟨w.heap.size, 1, none⟩ = some (.int .i64 b) := kept1 k32 hb5
  have k43 : W5.cell? ⟨w.heap.size, 2, none⟩ = some (.int .i64 c) := kept1 k33 hb5
  have k44 : W5.cell? ⟨w.heap.size, 3, none⟩ = some (.int .i64 d) := kept1 k34 hb5
  have k45 : W5.cell? ⟨w.heap.size + 1, 0, none⟩ = some (.int .i64 p) := kept1 k35 hb5
  have k46 : W5.cell? ⟨w.heap.size + 1, 1, none⟩ = some (.int .i64 q) := kept1 k36 hb5
  have k47 : W5.cell? ⟨w.heap.size + 1, 2, none⟩ = some (.int .i64 r) := kept1 k37 hb5
  have k48 : W5.cell? ⟨w.heap.size + 1, 3, none⟩ = some (.int .i64 s) := kept1 k38 hb5
  have k49 : W5.cell? ⟨w.heap.size + 1 + 1, 0, none⟩ = some (.int .i64 i) := kept1 k39 hb5
  have k50 : W5.cell? ⟨w.heap.size + 1 + 1, 1, none⟩ = some (.int .i64 j) := kept1 k40 hb5
  have lk41 : w.heap.size < W5.heap.size := block_lt_of_cell k41
  have lk45 : w.heap.size + 1 < W5.heap.size := block_lt_of_cell k45
  have lk49 : w.heap.size + 1 + 1 < W5.heap.size := block_lt_of_cell k49
  have hv5 : Below w.heap.size w W5 := bstep0 hv4 hb5
  clear hb5 hv4 k31 k32 k33 k34 k35 k36 k37 k38 k39 k40 lk31 lk35 lk39
  go_wp2_with fail
  refine (KH.out _).mono ?_
  rintro e W6 ⟨rfl, hb6⟩
  have k51 : W6.cell? ⟨w.heap.size, 0, none⟩ = some (.int .i64 a) := kept1 k41 hb6
  have k52 : W6.cell? ⟨w.heap.size, 1, none⟩ = some (.int .i64 b) := kept1 k42 hb6
  have k53 : W6.cell? ⟨w.heap.size, 2, none⟩ = some (.int .i64 c) := kept1 k43 hb6
  have k54 : W6.cell? ⟨w.heap.size, 3, none⟩ = some (.int .i64 d) := kept1 k44 hb6
  have k55 : W6.cell? ⟨w.heap.size + 1, 0, none⟩ = some (.int .i64 p) := kept1 k45 hb6
  have k56 : W6.cell? ⟨w.heap.size + 1, 1, none⟩ = some (.int .i64 q) := kept1 k46 hb6
  have k57 : W6.cell? ⟨w.heap.size + 1, 2, none⟩ = some (.int .i64 r) := kept1 k47 hb6
  have k58 : W6.cell? ⟨w.heap.size + 1, 3, none⟩ = some (.int .i64 s) := kept1 k48 hb6
  have k59 : W6.cell? ⟨w.heap.size + 1 + 1, 0, none⟩ = some (.int .i64 i) := kept1 k49 hb6
  have k60 : W6.cell? ⟨w.heap.size + 1 + 1, 1, none⟩ = some (.int .i64 j) := kept1 k50 hb6
  have lk51 : w.heap.size < W6.heap.size := block_lt_of_cell k51
  have lk55 : w.heap.size + 1 < W6.heap.size := block_lt_of_cell k55
  have lk59 : w.heap.size + 1 + 1 < W6.heap.size := block_lt_of_cell k59
  have hv6 : Below w.heap.size w W6 := bstep0 hv5 hb6
  clear hb6 hv5 k41 k42 k43 k44 k45 k46 k47 k48 k49 k50 lk41 lk45 lk49
  go_wp2_with fail
  refine (EM.out _).mono ?_
  rintro e W7 ⟨rfl, hb7⟩
  have k61 : W7.cell? ⟨w.heap.size, 0, none⟩ = some (.int .i64 a) := kept1 k51 hb7
  have k62 : W7.cell? ⟨w.heap.size, 1, none⟩ = some (.int .i64 b) := kept1 k52 hb7
  have k63 : W7.cell? ⟨w.heap.size, 2, none⟩ = some (.int .i64 c) := kept1 k53 hb7
  have k64 : W7.cell? ⟨w.heap.size, 3, none⟩ = some (.int .i64 d) := kept1 k54 hb7
  have k65 : W7.cell? ⟨w.heap.size + 1, 0, none⟩ = some (.int .i64 p) := kept1 k55 hb7
  have k66 : W7.cell? ⟨w.heap.size + 1, 1, none⟩ = some (.int .i64 q) := kept1 k56 hb7
  have k67 : W7.cell? ⟨w.heap.size + 1, 2, none⟩ = some (.int .i64 r) := kept1 k57 hb7
  have k68 : W7.cell? ⟨w.heap.size + 1, 3, none⟩ = some (.int .i64 s) := kept1 k58 hb7
  have k69 : W7.cell? ⟨w.heap.size + 1 + 1, 0, none⟩ = some (.int .i64 i) := kept1 k59 hb7
  have k70 : W7.cell? ⟨w.heap.size + 1 + 1, 1, none⟩ = some (.int .i64 j) := kept1 k60 hb7
  have lk61 : w.heap.size < W7.heap.size := block_lt_of_cell k61
  have lk65 : w.heap.size + 1 < W7.heap.size := block_lt_of_cell k65
  have lk69 : w.heap.size + 1 + 1 < W7.heap.size := block_lt_of_cell k69
  have hv7 : Below w.heap.size w W7 := bstep0 hv6 hb7
  clear hb7 hv6 k51 k52 k53 k54 k55 k56 k57 k58 k59 k60 lk51 lk55 lk59
  go_wp2_with fail
  refine (EU.out _).mono ?_
  rintro e W8 ⟨rfl, hb8⟩
  have k71 : W8.cell? ⟨w.heap.size, 0, none⟩ = some (.int .i64 a) := kept_a1 k61 hb8
  have k72 : W8.cell? ⟨w.heap.size, 1, none⟩ = some (.int .i64 b) := kept_a1 k62 hb8
  have k73 : W8.cell? ⟨w.heap.size, 2, none⟩ = some (.int .i64 c) := kept_a1 k63 hb8
  have k74 : W8.cell? ⟨w.heap.size, 3, none⟩ = some (.int .i64 d) := kept_a1 k64 hb8
  have k75 : W8.cell? ⟨w.heap.size + 1, 0, none⟩ = some (.int .i64 p) := kept_a1 k65 hb8
  have k76 : W8.cell? ⟨w.heap.size + 1, 1, none⟩ = some (.int .i64 q) := kept_a1 k66 hb8
  have k77 : W8.cell? ⟨w.heap.size + 1, 2, none⟩ = some (.int .i64 r) := kept_a1 k67 hb8
  have k78 : W8.cell? ⟨w.heap.size + 1, 3, none⟩ = some (.int .i64 s) := kept_a1 k68 hb8
  have k79 : W8.cell? ⟨w.heap.size + 1 + 1, 0, none⟩ = some (.int .i64 i) := kept_a1 k69 hb8
  have k80 : W8.cell? ⟨w.heap.size + 1 + 1, 1, none⟩ = some (.int .i64 j) := kept_a1 k70 hb8
  have k81 : W8.cell? ⟨W7.heap.size, 0, none⟩ = some (.int .i64 0) := kept1 (by simp [go_sem]) hb8
  have k82 : W8.cell? ⟨W7.heap.size, 1, none⟩ = some (.int .i64 0) := kept1 (by simp [go_sem]) hb8
  have k83 : W8.cell? ⟨W7.heap.size, 2, none⟩ = some (.int .i64 0) := kept1 (by simp [go_sem]) hb8
  have k84 : W8.cell? ⟨W7.heap.size, 3, none⟩ = some (.int .i64 0) := kept1 (by simp [go_sem]) hb8
  have lk71 : w.heap.size < W8.heap.size := block_lt_of_cell k71
  have lk75 : w.heap.size + 1 < W8.heap.size := block_lt_of_cell k75
  have lk79 : w.heap.size + 1 + 1 < W8.heap.size := block_lt_of_cell k79
  have lk81 : W7.heap.size < W8.heap.size := block_lt_of_cell k81
  have hv8 : Below w.heap.size w W8 := bstep1 hv7 hb8
  clear hb8 hv7 k61 k62 k63 k64 k65 k66 k67 k68 k69 k70 lk61 lk65 lk69
  go_wp2_with fail
  refine (ES.out _).mono ?_
  rintro e W9 ⟨rfl, hb9⟩
  have k85 : W9.cell? ⟨w.heap.size, 0, none⟩ = some (.int .i64 a) := kept_a1 k71 hb9
  have k86 : W9.cell? ⟨w.heap.size, 1, none⟩ = some (.int .i64 b) := kept_a1 k72 hb9
  have k87 : W9.cell? ⟨w.heap.size, 2, none⟩ = some (.int .i64 c) := kept_a1 k73 hb9
  have k88 : W9.cell? ⟨w.heap.size, 3, none⟩ = some (.int .i64 d) := kept_a1 k74 hb9
  have k89 : W9.cell? ⟨w.heap.size + 1, 0, none⟩ = some (.int .i64 p) := kept_a1 k75 hb9
  have k90 : W9.cell? ⟨w.heap.size + 1, 1, none⟩ = some (.int .i64 q) := kept_a1 k76 hb9
  have k91 : W9.cell? ⟨w.heap.size + 1, 2, none⟩ = some (.int .i64 r) := kept_a1 k77 hb9
  have k92 : W9.cell? ⟨w.heap.size + 1, 3, none⟩ = some (.int .i64 s) := kept_a1 k78 hb9
  have k93 : W9.cell? ⟨w.heap.size + 1 + 1, 0, none⟩ = some (.int .i64 i) := kept_a1 k79 hb9
  have k94 : W9.cell? ⟨w.heap.size + 1 + 1, 1, none⟩ = some (.int .i64 j) := kept_a1 k80 hb9
  have k95 : W9.cell? ⟨W7.heap.size, 0, none⟩ = some (.int .i64 0) := kept_a1 k81 hb9
  have k96 : W9.cell? ⟨W7.heap.size, 1, none⟩ = some (.int .i64 0) := kept_a1 k82 hb9
  have k97 : W9.cell? ⟨W7.heap.size, 2, none⟩ = some (.int .i64 0) := kept_a1 k83 hb9
  have k98 : W9.cell? ⟨W7.heap.size, 3, none⟩ = some (.int .i64 0) := kept_a1 k84 hb9
  have k99 : W9.cell? ⟨W8.heap.size, 0, none⟩ = some (.int .i64 0) := kept1 (by simp [go_sem]) hb9
  have k100 : W9.cell? ⟨W8.heap.size, 1, none⟩ = some (.int .i64 0) := kept1 (by simp [go_sem]) hb9
  have k101 : W9.cell? ⟨W8.heap.size, 2, none⟩ = some (.int .i64 0) := kept1 (by simp [go_sem]) hb9
  have k102 : W9.cell? ⟨W8.heap.size, 3, none⟩ = some (.int .i64 0) := kept1 (by simp [go_sem]) hb9
  have lk85 : w.heap.size < W9.heap.size := block_lt_of_cell k85
  have lk89 : w.heap.size + 1 < W9.heap.size := block_lt_of_cell k89
  have lk93 : w.heap.size + 1 + 1 < W9.heap.size := block_lt_of_cell k93
  have lk95 : W7.heap.size < W9.heap.size := block_lt_of_cell k95
  have lk99 : W8.heap.size < W9.heap.size := block_lt_of_cell k99
  have hv9 : Below w.heap.size w W9 := bstep1 hv8 hb9
  clear hb9 hv8 k71 k72 k73 k74 k75 k76 k77 k78 k79 k80 k81 k82 k83 k84 lk71 lk75 lk79 lk81
  go_wp2_with fail
  refine (ET.out _).mono ?_
  rintro e W10 ⟨rfl, hb10⟩
  have k103 : W10.cell? ⟨w.heap.size, 0, none⟩ = some (.int .i64 a) := kept_a1 k85 hb10
  have k104 : W10.cell? ⟨w.heap.size, 1, none⟩ = some (.int .i64 b) := kept_a1 k86 hb10
  have k105 : W10.cell? ⟨w.heap.size, 2, none⟩ = some (.int .i64 c) := kept_a1 k87 hb10
  have k106 : W10.cell? ⟨w.heap.size, 3, none⟩ = some (.int .i64 d) := kept_a1 k88 hb10
  have k107 : W10.cell? ⟨w.heap.size + 1, 0, none⟩ = some (.int .i64 p) := kept_a1 k89 hb10
  have k108 : W10.cell? ⟨w.heap.size + 1, 1, none⟩ = some (.int .i64 q) := kept_a1 k90 hb10
  have k109 : W10.cell? ⟨w.heap.size + 1, 2, none⟩ = some (.int .i64 r) := kept_a1 k91 hb10
  have k110 : W10.cell? ⟨w.heap.size + 1, 3, none⟩ = some (.int .i64 s) := kept_a1 k92 hb10
  have k111 : W10.cell? ⟨w.heap.size + 1 + 1, 0, none⟩ = some (.int .i64 i) := kept_a1 k93 hb10
  have k112 : W10.cell? ⟨w.heap.size + 1 + 1, 1, none⟩ = some (.int .i64 j) := kept_a1 k94 hb10
  have k113 : W10.cell? ⟨W7.heap.size, 0, none⟩ = some (.int .i64 0) := kept_a1 k95 hb10
  have k114 : W10.cell? ⟨W7.heap.size, 1, none⟩ = some (.int .i64 0) := kept_a1 k96 hb10
  have k115 : W10.cell? ⟨W7.heap.size, 2, none⟩ = some (.int .i64 0) := kept_a1 k97 hb10
  have k116 : W10.cell? ⟨W7.heap.size, 3, none⟩ = some (.int .i64 0) := kept_a1 k98 hb10
  have k117 : W10.cell? ⟨W8.heap.size, 0, none⟩ = some (.int .i64 0) := kept_a1 k99 hb10
  have k118 : W10.cell? ⟨W8.heap.size, 1, none⟩ = some (.int .i64 0) := kept_a1 k100 hb10
  have k119 : W10.cell? ⟨W8.heap.size, 2, none⟩ = some (.int .i64 0) := kept_a1 k101 hb10
  have k120 : W10.cell? ⟨W8.heap.size, 3, none⟩ = some (.int .i64 0) := kept_a1 k102 hb10
  have k121 : W10.cell? ⟨W9.heap.size, 0, none⟩ = some (.int .i64 0) := kept1 (by simp [go_sem]) hb10
  have k122 : W10.cell? ⟨W9.heap.size, 1, none⟩ = some (.int .i64 0) := kept1 (by simp [go_sem]) hb10
  have k123 : W10.cell? ⟨W9.heap.size, 2, none⟩ = some (.int .i64 0) := kept1 (by simp [go_sem]) hb10
  have k124 : W10.cell? ⟨W9.heap.size, 3, none⟩ = some (.int .i64 0) := kept1 (by simp [go_sem]) hb10
  have lk103 : w.heap.size < W10.heap.size := block_lt_of_cell k103
  have lk107 : w.heap.size + 1 < W10.heap.size := block_lt_of_cell k107
  have lk111 : w.heap.size + 1 + 1 < W10.heap.size := block_lt_of_cell k111
  have lk113 : W7.heap.size < W10.heap.size := block_lt_of_cell k113
  have lk117 : W8.heap.size < W10.heap.size := block_lt_of_cell k117
  have lk121 : W9.heap.size < W10.heap.size := block_lt_of_cell k121
  have hv10 : Below w.heap.size w W10 := bstep1 hv9 hb10
  clear hb10 hv9 k85 k86 k87 k88 k89 k90 k91 k92 k93 k94 k95 k96 k97 k98 k99 k100 k101 k102 lk85 lk89 lk93 lk95 lk99
  go_wp2_with fail
  refine (EV.out _).mono ?_
  rintro e W11 ⟨rfl, hb11⟩
  have k125 : W11.cell? ⟨w.heap.size, 0, none⟩ = some (.int .i64 a) := kept_a1 k103 hb11
  have k126 : W11.cell? ⟨w.heap.size, 1, none⟩ = some (.int .i64 b) := kept_a1 k104 hb11
  have k127 : W11.cell? ⟨w.heap.size, 2, none⟩ = some (.int .i64 c) := kept_a1 k105 hb11
  have k128 : W11.cell? ⟨w.heap.size, 3, none⟩ = some (.int .i64 d) := kept_a1 k106 hb11
  have k129 : W11.cell? ⟨w.heap.size + 1, 0, none⟩ = some (.int .i64 p) := kept_a1 k107 hb11
  have k130 : W11.cell? ⟨w.heap.size + 1, 1, none⟩ = some (.int .i64 q) := kept_a1 k108 hb11
  have k131 : W11.cell? ⟨w.heap.size + 1, 2, none⟩ = some (.int .i64 r) := kept_a1 k109 hb11
  have k132 : W11.cell? ⟨w.heap.size + 1, 3, none⟩ = some (.int .i64 s) := kept_a1 k110 hb11
  have k133 : W11.cell? ⟨w.heap.size + 1 + 1, 0, none⟩ = some (.int .i64 i) := kept_a1 k111 hb11
  have k134 : W11.cell? ⟨w.heap.size + 1 + 1, 1, none⟩ = some (.int .i64 j) := kept_a1 k112 hb11
  have k135 : W11.cell? ⟨W7.heap.size, 0, none⟩ = some (.int .i64 0) := kept_a1 k113 hb11
  have k136 : W11.cell? ⟨W7.heap.size, 1, none⟩ = some (.int .i64 0) := kept_a1 k114 hb11
  have k137 : W11.cell? ⟨W7.heap.size, 2, none⟩ = some (.int .i64 0) := kept_a1 k115 hb11
  have k138 : W11.cell? ⟨W7.heap.size, 3, none⟩ = some (.int .i64 0) := kept_a1 k116 hb11
  have k139 : W11.cell? ⟨W8.heap.size, 0, none⟩ = some (.int .i64 0) := kept_a1 k117 hb11
  have k140 : W11.cell? ⟨W8.heap.size, 1, none⟩ = some (.int .i64 0) := kept_a1 k118 hb11
  have k141 : W11.cell? ⟨W8.heap.size, 2, none⟩ = some (.int .i64 0) := kept_a1 k119 hb11
  have k142 : W11.cell? ⟨W8.heap.size, 3, none⟩ = some (.int .i64 0) := kept_a1 k120 hb11
  have k143 : W11.cell? ⟨W9.heap.size, 0, none⟩ = some (.int .i64 0) := kept_a1 k121 hb11
  have k144 : W11.cell? ⟨W9.heap.size, 1, none⟩ = some (.int .i64 0) := kept_a1 k122 hb11
  have k145 : W11.cell? ⟨W9.heap.size, 2, none⟩ = some (.int .i64 0) := kept_a1 k123 hb11
  have k146 : W11.cell? ⟨W9.heap.size, 3, none⟩ = some (.int .i64 0) := kept_a1 k124 hb11
  have k147 : W11.cell? ⟨W10.heap.size, 0, none⟩ = some (.int .i64 v1) := kept1 (by simp [go_sem]) hb11
  have k148 : W11.cell? ⟨W10.heap.size, 1, none⟩ = some (.int .i64 v2) := kept1 (by simp [go_sem]) hb11
  have k149 : W11.cell? ⟨W10.heap.size, 2, none⟩ = some (.int .i64 v3) := kept1 (by simp [go_sem]) hb11
  have k150 : W11.cell? ⟨W10.heap.size, 3, none⟩ = some (.int .i64 v4) := kept1 (by simp [go_sem]) hb11
  have lk125 : w.heap.size < W11.heap.size := block_lt_of_cell k125
  have lk129 : w.heap.size + 1 < W11.heap.size := block_lt_of_cell k129
  have lk133 : w.heap.size + 1 + 1 < W11.heap.size := block_lt_of_cell k133
  have lk135 : W7.heap.size < W11.heap.size := block_lt_of_cell k135
  have lk139 : W8.heap.size < W11.heap.size := block_lt_of_cell k139
  have lk143 : W9.heap.size < W11.heap.size := block_lt_of_cell k143
  have lk147 : W10.heap.size < W11.heap.size := block_lt_of_cell k147
  have hv11 : Below w.heap.size w W11 := bstep1 hv10 hb11
  clear hb11 hv10 k103 k104 k105 k106 k107 k108 k109 k110 k111 k112 k113 k114 k115 k116 k117 k118 k119 k120 k121 k122 k123 k124 lk103 lk107 lk111 lk113 lk117 lk121
  go_wp2_with fail
  refine (as_yes 0 0 0 0 1 _).mono ?_
  rintro e W12 ⟨rfl, hb12⟩
  have k151 : W12.cell? ⟨w.heap.size, 0, none⟩ = some (.int .i64 a) := kept_a2 k125 hb12
  have k152 : W12.cell? ⟨w.heap.size, 1, none⟩ = some (.int .i64 b) := kept_a2 k126 hb12
  have k153 : W12.cell? ⟨w.heap.size, 2, none⟩ = some (.int .i64 c) := kept_a2 k127 hb12
  have k154 : W12.cell? ⟨w.heap.size, 3, none⟩ = some (.int .i64 d) := kept_a2 k128 hb12
  have k155 : W12.cell? ⟨w.heap.size + 1, 0, none⟩ = some (.int .i64 p) := kept_a2 k129 hb12
  have k156 : W12.cell? ⟨w.heap.size + 1, 1, none⟩ = some (.int .i64 q) := kept_a2 k130 hb12
  have k157 : W12.cell? ⟨w.heap.size + 1, 2, none⟩ = some (.int .i64 r) := kept_a2 k131 hb12
  have k158 : W12.cell? ⟨w.heap.size + 1, 3, none⟩ = some (.int .i64 s) := kept_a2 k132 hb12
  have k159 : W12.cell? ⟨w.heap.size + 1 + 1, 0, none⟩ = some (.int .i64 i) := kept_a2 k133 hb12
  have k160 : W12.cell? ⟨w.heap.size + 1 + 1, 1, none⟩ = some (.int .i64 j) := kept_a2 k134 hb12
  have k161 : W12.cell? ⟨W7.heap.size, 0, none⟩ = some (.int .i64 0) := kept_a2 k135 hb12
  have k162 : W12.cell? ⟨W7.heap.size, 1, none⟩ = some (.int .i64 0) := kept_a2 k136 hb12
  have k163 : W12.cell? ⟨W7.heap.size, 2, none⟩ = some (.int .i64 0) := kept_a2 k137 hb12
  have k164 : W12.cell? ⟨W7.heap.size, 3, none⟩ = some (.int .i64 0) := kept_a2 k138 hb12
  have k165 : W12.cell? ⟨W8.heap.size, 0, none⟩ = some (.int .i64 0) := kept_a2 k139 hb12
  have k166 : W12.cell? ⟨W8.heap.size, 1, none⟩ = some (.int .i64 0) := kept_a2 k140 hb12
  have k167 : W12.cell? ⟨W8.heap.size, 2, none⟩ = some (.int .i64 0) := kept_a2 k141 hb12
  have k168 : W12.cell? ⟨W8.heap.size, 3, none⟩ = some (.int .i64 0) := kept_a2 k142 hb12
  have k169 : W12.cell? ⟨W9.heap.size, 0, none⟩ = some (.int .i64 0) := kept_a2 k143 hb12
  have k170 : W12.cell? ⟨W9.heap.size, 1, none⟩ = some (.int .i64 0) := kept_a2 k144 hb12
  have k171 : W12.cell? ⟨W9.heap.size, 2, none⟩ = some (.int .i64 0) := kept_a2 k145 hb12
  have k172 : W12.cell? ⟨W9.heap.size, 3, none⟩ = some (.int .i64 0) := kept_a2 k146 hb12
  have k173 : W12.cell? ⟨W10.heap.size, 0, none⟩ = some (.int .i64 v1) := kept_a2 k147 hb12
  have k174 : W12.cell? ⟨W10.heap.size, 1, none⟩ = some (.int .i64 v2) := kept_a2 k148 hb12
  have k175 : W12.cell? ⟨W10.heap.size, 2, none⟩ = some (.int .i64 v3) := kept_a2 k149 hb12
  have k176 : W12.cell? ⟨W10.heap.size, 3, none⟩ = some (.int .i64 v4) := kept_a2 k150 hb12
  have k177 : W12.cell? ⟨W11.heap.size, 0, none⟩ = some (.int .i64 0) := kept1 (by simp [go_sem]) hb12
  have k178 : W12.cell? ⟨W11.heap.size, 1, none⟩ = some (.int .i64 0) := kept1 (by simp [go_sem]) hb12
  have k179 : W12.cell? ⟨W11.heap.size + 1, 0, none⟩ = some (.int .i64 0) := kept1 (by simp [go_sem]) hb12
  have k180 : W12.cell? ⟨W11.heap.size + 1, 1, none⟩ = some (.int .i64 0) := kept1 (by simp [go_sem]) hb12
  have k181 : W12.cell? ⟨W11.heap.size + 1, 2, none⟩ = some (.int .i64 0) := kept1 (by simp [go_sem]) hb12
  have k182 : W12.cell? ⟨W11.heap.size + 1, 3, none⟩ = some (.int .i64 0) := kept1 (by simp [go_sem]) hb12
  have k183 : W12.cell? ⟨W11.heap.size + 1, 4, none⟩ = some (.int .i64 1) := kept1 (by simp [go_sem]) hb12
  have lk151 : w.heap.size < W12.heap.size := block_lt_of_cell k151
  have lk155 : w.heap.size + 1 < W12.heap.size := block_lt_of_cell k155
  have lk159 : w.heap.size + 1 + 1 < W12.heap.size := block_lt_of_cell k159
  have lk161 : W7.heap.size < W12.heap.size := block_lt_of_cell k161
  have lk165 : W8.heap.size < W12.heap.size := block_lt_of_cell k165
  have lk169 : W9.heap.size < W12.heap.size := block_lt_of_cell k169
  have lk173 : W10.heap.size < W12.heap.size := block_lt_of_cell k173
  have lk177 : W11.heap.size < W12.heap.size := block_lt_of_cell k177
  have lk179 : W11.heap.size + 1 < W12.heap.size := block_lt_of_cell k179
  have hv12 : Below w.heap.size w W12 := bstep2 hv11 hb12
  clear hb12 hv11 k125 k126 k127 k128 k129 k130 k131 k132 k133 k134 k135 k136 k137 k138 k139 k140 k141 k142 k143 k144 k145 k146 k147 k148 k149 k150 lk125 lk129 lk133 lk135 lk139 lk143 lk147
  go_wp2_with fail
  refine (as_yes 0 0 0 0 1 _).mono ?_
  rintro e W13 ⟨rfl, hb13⟩
  have k184 : W13.cell? ⟨w.heap.size, 0, none⟩ = some (.int .i64 a) := kept1 k151 hb13
  have k185 : W13.cell? ⟨w.heap.size, 1, none⟩ = some (.int .i64 b) := kept1 k152 hb13
  have k186 : W13.cell? ⟨w.heap.size, 2, none⟩ = some (.int .i64 c) := kept1 k153 hb13
  have k187 : W13.cell? ⟨w.heap.size, 3, none⟩ = some (.int .i64 d) := kept1 k154 hb13
  have k188 : W13.cell? ⟨w.heap.size + 1, 0, none⟩ = some (.int .i64 p) := kept1 k155 hb13
  have k189 : W13.cell? ⟨w.heap.size + 1, 1, none⟩ = some (.int .i64 q) := kept1 k156 hb13
  have k190 : W13.cell? ⟨w.heap.size + 1, 2, none⟩ = some (.int .i64 r) := kept1 k157 hb13
  have k191 : W13.cell? ⟨w.heap.size + 1, 3, none⟩ = some (.int .i64 s) := kept1 k158 hb13
  have k192 : W13.cell? ⟨w.heap.size + 1 + 1, 0, none⟩ = some (.int .i64 i) := kept1 k159 hb13
  have k193 : W13.cell? ⟨w.heap.size + 1 + 1, 1, none⟩ = some (.int .i64 j) := kept1 k160 hb13
  have k194 : W13.cell? ⟨W7.heap.size, 0, none⟩ = some (.int .i64 0) := kept1 k161 hb13
  have k195 : W13.cell? ⟨W7.heap.size, 1, none⟩ = some (.int .i64 0) := kept1 k162 hb13
  have k196 : W13.cell? ⟨W7.heap.size, 2, none⟩ = some (.int .i64 0) := kept1 k163 hb13
  have k197 : W13.cell? ⟨W7.heap.size, 3, none⟩ = some (.int .i64 0) := kept1 k164 hb13
  have k198 : W13.cell? ⟨W8.heap.size, 0, none⟩ = some (.int .i64 0) := kept1 k165 hb13
  have k199 : W13.cell? ⟨W8.heap.size, 1, none⟩ = some (.int .i64 0) := kept1 k166 hb13
  have k200 : W13.cell? ⟨W8.heap.size, 2, none⟩ = some (.int .i64 0) := kept1 k167 hb13
  have k201 : W13.cell? ⟨W8.heap.size, 3, none⟩ = some (.int .i64 0) := kept1 k168 hb13
  have k202 : W13.cell? ⟨W9.heap.size, 0, none⟩ = some (.int .i64 0) := kept1 k169 hb13
  have k203 : W13.cell? ⟨W9.heap.size, 1, none⟩ = some (.int .i64 0) := kept1 k170 hb13
  have k204 : W13.cell? ⟨W9.heap.size, 2, none⟩ = some (.int .i64 0) := kept1 k171 hb13
  have k205 : W13.cell? ⟨W9.heap.size, 3, none⟩ = some (.int .i64 0) := kept1 k172 hb13
  have k206 : W13.cell? ⟨W10.heap.size, 0, none⟩ = some (.int .i64 v1) := kept1 k173 hb13
  have k207 : W13.cell? ⟨W10.heap.size, 1, none⟩ = some (.int .i64 v2) := kept1 k174 hb13
  have k208 : W13.cell? ⟨W10.heap.size, 2, none⟩ = some (.int .i64 v3) := kept1 k175 hb13
  have k209 : W13.cell? ⟨W10.heap.size, 3, none⟩ = some (.int .i64 v4) := kept1 k176 hb13
  have k210 : W13.cell? ⟨W11.heap.size, 0, none⟩ = some (.int .i64 0) := kept1 k177 hb13
  have k211 : W13.cell? ⟨W11.heap.size, 1, none⟩ = some (.int .i64 0) := kept1 k178 hb13
  have k212 : W13.cell? ⟨W11.heap.size + 1, 0, none⟩ = some (.int .i64 0) := kept1 k179 hb13
  have k213 : W13.cell? ⟨W11.heap.size + 1, 1, none⟩ = some (.int .i64 0) := kept1 k180 hb13
  have k214 : W13.cell? ⟨W11.heap.size + 1, 2, none⟩ = some (.int .i64 0) := kept1 k181 hb13
  have k215 : W13.cell? ⟨W11.heap.size + 1, 3, none⟩ = some (.int .i64 0) := kept1 k182 hb13
  have k216 : W13.cell? ⟨W11.heap.size + 1, 4, none⟩ = some (.int .i64 1) := kept1 k183 hb13
  have lk184 : w.heap.size < W13.heap.size := block_lt_of_cell k184
  have lk188 : w.heap.size + 1 < W13.heap.size := block_lt_of_cell k188
  have lk192 : w.heap.size + 1 + 1 < W13.heap.size := block_lt_of_cell k192
  have lk194 : W7.heap.size < W13.heap.size := block_lt_of_cell k194
  have lk198 : W8.heap.size < W13.heap.size := block_lt_of_cell k198
  have lk202 : W9.heap.size < W13.heap.size := block_lt_of_cell k202
  have lk206 : W10.heap.size < W13.heap.size := block_lt_of_cell k206
  have lk210 : W11.heap.size < W13.heap.size := block_lt_of_cell k210
  have lk212 : W11.heap.size + 1 < W13.heap.size := block_lt_of_cell k212
  have hv13 : Below w.heap.size w W13 := bstep0 hv12 hb13
  clear hb13 hv12 k151 k152 k153 k154 k155 k156 k157 k158 k159 k160 k161 k162 k163 k164 k165 k166 k167 k168 k169 k170 k171 k172 k173 k174 k175 k176 k177 k178 k179 k180 k181 k182 k183 lk151 lk155 lk159 lk161 lk165 lk169 lk173 lk177 lk179
  go_wp2_with fail
  refine (as_yes 0 0 0 0 1 _).mono ?_
  rintro e W14 ⟨rfl, hb14⟩
  have k217 : W14.cell? ⟨w.heap.size, 0, none⟩ = some (.int .i64 a) := kept1 k184 hb14
  have k218 : W14.cell? ⟨w.heap.size, 1, none⟩ = some (.int .i64 b) := kept1 k185 hb14
  have k219 : W14.cell? ⟨w.heap.size, 2, none⟩ = some (.int .i64 c) := kept1 k186 hb14
  have k220 : W14.cell? ⟨w.heap.size, 3, none⟩ = some (.int .i64 d) := kept1 k187 hb14
  have k221 : W14.cell? ⟨w.heap.size + 1, 0, none⟩ = some (.int .i64 p) := kept1 k188 hb14
  have k222 : W14.cell? ⟨w.heap.size + 1, 1, none⟩ = some (.int .i64 q) := kept1 k189 hb14
  have k223 : W14.cell? ⟨w.heap.size + 1, 2, none⟩ = some (.int .i64 r) := kept1 k190 hb14
  have k224 : W14.cell? ⟨w.heap.size + 1, 3, none⟩ = some (.int .i64 s) := kept1 k191 hb14
  have k225 : W14.cell? ⟨w.heap.size + 1 + 1, 0, none⟩ = some (.int .i64 i) := kept1 k192 hb14
  have k226 : W14.cell? ⟨w.heap.size + 1 + 1, 1, none⟩ = some (.int .i64 j) := kept1 k193 hb14
  have k227 : W14.cell? ⟨W7.heap.size, 0, none⟩ = some (.int .i64 0) := kept1 k194 hb14
  have k228 : W14.cell? ⟨W7.heap.size, 1, none⟩ = some (.int .i64 0) := kept1 k195 hb14
  have k229 : W14.cell? ⟨W7.heap.size, 2, none⟩ = some (.int .i64 0) := kept1 k196 hb14
  have k230 : W14.cell? ⟨W7.heap.size, 3, none⟩ = some (.int .i64 0) := kept1 k197 hb14
  have k231 : W14.cell? ⟨W8.heap.size, 0, none⟩ = some (.int .i64 0) := kept1 k198 hb14
  have k232 : W14.cell? ⟨W8.heap.size, 1, none⟩ = some (.int .i64 0) := kept1 k199 hb14
  have k233 : W14.cell? ⟨W8.heap.size, 2, none⟩ = some (.int .i64 0) := kept1 k200 hb14
  have k234 : W14.cell? ⟨W8.heap.size, 3, none⟩ = some (.int .i64 0) := kept1 k201 hb14
  have k235 : W14.cell? ⟨W9.heap.size, 0, none⟩ = some (.int .i64 0) := kept1 k202 hb14
  have k236 : W14.cell? ⟨W9.heap.size, 1, none⟩ = some (.int .i64 0) := kept1 k203 hb14
  have k237 : W14.cell? ⟨W9.heap.size, 2, none⟩ = some (.int .i64 0) := kept1 k204 hb14
  have k238 : W14.cell? ⟨W9.heap.size, 3, none⟩ = some (.int .i64 0) := kept1 k205 hb14
  have k239 : W14.cell? ⟨W10.heap.size, 0, none⟩ = some (.int .i64 v1) := kept1 k206 hb14
  have k240 : W14.cell? ⟨W10.heap.size, 1, none⟩ = some (.int .i64 v2) := kept1 k207 hb14
  have k241 : W14.cell? ⟨W10.heap.size, 2, none⟩ = some (.int .i64 v3) := kept1 k208 hb14
  have k242 : W14.cell? ⟨W10.heap.size, 3, none⟩ = some (.int .i64 v4) := kept1 k209 hb14
  have k243 : W14.cell? ⟨W11.heap.size, 0, none⟩ = some (.int .i64 0) := kept1 k210 hb14
  have k244 : W14.cell? ⟨W11.heap.size, 1, none⟩ = some (.int .i64 0) := kept1 k211 hb14
  have k245 : W14.cell? ⟨W11.heap.size + 1, 0, none⟩ = some (.int .i64 0) := kept1 k212 hb14
  have k246 : W14.cell? ⟨W11.heap.size + 1, 1, none⟩ = some (.int .i64 0) := kept1 k213 hb14
  have k247 : W14.cell? ⟨W11.heap.size + 1, 2, none⟩ = some (.int .i64 0) := kept1 k214 hb14
  have k248 : W14.cell? ⟨W11.heap.size + 1, 3, none⟩ = some (.int .i64 0) := kept1 k215 hb14
  have k249 : W14.cell? ⟨W11.heap.size + 1, 4, none⟩ = some (.int .i64 1) := kept1 k216 hb14
  have lk217 : w.heap.size < W14.heap.size := block_lt_of_cell k217
  have lk221 : w.heap.size + 1 < W14.heap.size := block_lt_of_cell k221
  have lk225 : w.heap.size + 1 + 1 < W14.heap.size := block_lt_of_cell k225
  have lk227 : W7.heap.size < W14.heap.size := block_lt_of_cell k227
  have lk231 : W8.heap.size < W14.heap.size := block_lt_of_cell k231
  have lk235 : W9.heap.size < W14.heap.size := block_lt_of_cell k235
  have lk239 : W10.heap.size < W14.heap.size := block_lt_of_cell k239
  have lk243 : W11.heap.size < W14.heap.size := block_lt_of_cell k243
  have lk245 : W11.heap.size + 1 < W14.heap.size := block_lt_of_cell k245
  have hv14 : Below w.heap.size w W14 := bstep0 hv13 hb14
  clear hb14 hv13 k184 k185 k186 k187 k188 k189 k190 k191 k192 k193 k194 k195 k196 k197 k198 k199 k200 k201 k202 k203 k204 k205 k206 k207 k208 k209 k210 k211 k212 k213 k214 k215 k216 lk184 lk188 lk192 lk194 lk198 lk202 lk206 lk210 lk212
  clear k221 k222 k223 k224 lk221
  clear k227 k228 k229 k230 lk227
  clear k231 k232 k233 k234 lk231
  clear k235 k236 k237 k238 lk235
  go_upto_region 20 with fail
  have hTX : Hid (Tab W14.drew.heap.size W14.drew) := Lib.hid (Lib.tabBelow_of_tabIs (hT.out.on hv14.drew).here)
  go_cut [146] from 140 to 146 (fun s146 wx => s146 = .bool false ∧ wx.cell? ⟨w.heap.size, 0, none⟩ = some (.int .i64 a) ∧ wx.cell? ⟨w.heap.size, 1, none⟩ = some (.int .i64 b) ∧ wx.cell? ⟨w.heap.size, 2, none⟩ = some (.int .i64 c) ∧ wx.cell? ⟨w.heap.size, 3, none⟩ = some (.int .i64 d) ∧ wx.cell? ⟨w.heap.size + 1 + 1, 0, none⟩ = some (.int .i64 i) ∧ wx.cell? ⟨w.heap.size + 1 + 1, 1, none⟩ = some (.int .i64 j) ∧ wx.cell? ⟨W10.heap.size, 0, none⟩ = some (.int .i64 v1) ∧ wx.cell? ⟨W10.heap.size, 1, none⟩ = some (.int .i64 v2) ∧ wx.cell? ⟨W10.heap.size, 2, none⟩ = some (.int .i64 v3) ∧ wx.cell? ⟨W10.heap.size, 3, none⟩ = some (.int .i64 v4) ∧ wx.cell? ⟨W11.heap.size, 0, none⟩ = some (.int .i64 0) ∧ wx.cell? ⟨W11.heap.size, 1, none⟩ = some (.int .i64 0) ∧ wx.cell? ⟨W11.heap.size + 1, 0, none⟩ = some (.int .i64 0) ∧ wx.cell? ⟨W11.heap.size + 1, 1, none⟩ = some (.int .i64 0) ∧ wx.cell? ⟨W11.heap.size + 1, 2, none⟩ = some (.int .i64 0) ∧ wx.cell? ⟨W11.heap.size + 1, 3, none⟩ = some (.int .i64 0) ∧ wx.cell? ⟨W11.heap.size + 1, 4, none⟩ = some (.int .i64 1) ∧ Below w.heap.size w wx)
  case first =>
    have S0 : W14.drew.cell? ⟨w.heap.size, 0, none⟩ = some (.int .i64 a) ∧ W14.drew.cell? ⟨w.heap.size, 1, none⟩ = some (.int .i64 b) ∧ W14.drew.cell? ⟨w.heap.size, 2, none⟩ = some (.int .i64 c) ∧ W14.drew.cell? ⟨w.heap.size, 3, none⟩ = some (.int .i64 d) ∧ W14.drew.cell? ⟨w.heap.size + 1 + 1, 0, none⟩ = some (.int .i64 i) ∧ W14.drew.cell? ⟨w.heap.size + 1 + 1, 1, none⟩ = some (.int .i64 j) ∧ W14.drew.cell? ⟨W10.heap.size, 0, none⟩ = some (.int .i64 v1) ∧ W14.drew.cell? ⟨W10.heap.size, 1, none⟩ = some (.int .i64 v2) ∧ W14.drew.cell? ⟨W10.heap.size, 2, none⟩ = some (.int .i64 v3) ∧ W14.drew.cell? ⟨W10.heap.size, 3, none⟩ = some (.int .i64 v4) ∧ W14.drew.cell? ⟨W11.heap.size, 0, none⟩ = some (.int .i64 0) ∧ W14.drew.cell? ⟨W11.heap.size, 1, none⟩ = some (.int .i64 0) ∧ W14.drew.cell? ⟨W11.heap.size + 1, 0, none⟩ = some (.int .i64 0) ∧ W14.drew.cell? ⟨W11.heap.size + 1, 1, none⟩ = some (.int .i64 0) ∧ W14.drew.cell? ⟨W11.heap.size + 1, 2, none⟩ = some (.int .i64 0) ∧ W14.drew.cell? ⟨W11.heap.size + 1, 3, none⟩ = some (.int .i64 0) ∧ W14.drew.cell? ⟨W11.heap.size + 1, 4, none⟩ = some (.int .i64 1) ∧ Below w.heap.size w W14.drew := ⟨by assumption, by assumption, by assumption, by assumption, by assumption, by assumption, by assumption, by assumption, by assumption, by assumption, by assumption, by assumption, by assumption, by assumption, by assumption, by assumption, by assumption, hv14.drew⟩
    go_region_held3 (fun w' => w'.cell? ⟨w.heap.size, 0, none⟩ = some (.int .i64 a) ∧ w'.cell? ⟨w.heap.size, 1, none⟩ = some (.int .i64 b) ∧ w'.cell? ⟨w.heap.size, 2, none⟩ = some (.int .i64 c) ∧ w'.cell? ⟨w.heap.size, 3, none⟩ = some (.int .i64 d) ∧ w'.cell? ⟨w.heap.size + 1 + 1, 0, none⟩ = some (.int .i64 i) ∧ w'.cell? ⟨w.heap.size + 1 + 1, 1, none⟩ = some (.int .i64 j) ∧ w'.cell? ⟨W10.heap.size, 0, none⟩ = some (.int .i64 v1) ∧ w'.cell? ⟨W10.heap.size, 1, none⟩ = some (.int .i64 v2) ∧ w'.cell? ⟨W10.heap.size, 2, none⟩ = some (.int .i64 v3) ∧ w'.cell? ⟨W10.heap.size, 3, none⟩ = some (.int .i64 v4) ∧ w'.cell? ⟨W11.heap.size, 0, none⟩ = some (.int .i64 0) ∧ w'.cell? ⟨W11.heap.size, 1, none⟩ = some (.int .i64 0) ∧ w'.cell? ⟨W11.heap.size + 1, 0, none⟩ = some (.int .i64 0) ∧ w'.cell? ⟨W11.heap.size + 1, 1, none⟩ = some (.int .i64 0) ∧ w'.cell? ⟨W11.heap.size + 1, 2, none⟩ = some (.int .i64 0) ∧ w'.cell? ⟨W11.heap.size + 1, 3, none⟩ = some (.int .i64 0) ∧ w'.cell? ⟨W11.heap.size + 1, 4, none⟩ = some (.int .i64 1) ∧ Below w.heap.size w w')
      (first | with_reducible exact S0 | with_reducible exact keep17 (by assumption) hbp | with_reducible exact keep17 (by assumption) (drewN_below _))
      (first
        | (go_at_call 66
           refine (KT.out _).mono ?_
           rintro e wp ⟨he, hbp⟩
           subst he)
        | (go_at_call 62
           refine (as_yes _ _ _ _ _ _).mono ?_
           rintro e wp ⟨he, hbp⟩
           subst he))
    all_goals
      go_split_ands
      try go_split_ands
      go_wp2_with fail
      go_meet
      exact ⟨rfl, by with_reducible assumption, by with_reducible assumption, by with_reducible assumption, by with_reducible assumption, by with_reducible assumption, by with_reducible assumption, by with_reducible assumption, by with_reducible assumption, by with_reducible assumption, by with_reducible assumption, by with_reducible assumption, by with_reducible assumption, by with_reducible assumption, by with_reducible assumption, by with_reducible assumption, by with_reducible assumption, by with_reducible assumption, by with_reducible assumption⟩
  case rest =>
    generalize wc = V15 at hcut ⊢
    clear wc
    obtain ⟨rfl, k250, k251, k252, k253, k254, k255, k256, k257, k258, k259, k260, k261, k262, k263, k264, k265, k266, hv15⟩ := hcut
    clear hv14 k217 k218 k219 k220 k225 k226 k239 k240 k241 k242 k243 k244 k245 k246 k247 k248 k249 lk217 lk225 lk239 lk243 lk245
    have lk250 : w.heap.size < V15.heap.size := block_lt_of_cell k250
    have lk254 : w.heap.size + 1 + 1 < V15.heap.size := block_lt_of_cell k254
    have lk256 : W10.heap.size < V15.heap.size := block_lt_of_cell k256
    have lk260 : W11.heap.size < V15.heap.size := block_lt_of_cell k260
    have lk262 : W11.heap.size + 1 < V15.heap.size := block_lt_of_cell k262
    clear k254 k255 lk254
    clear k256 k257 k258 k259 lk256
    clear k262 k263 k264 k265 k266 lk262
    go_wp2_with fail
    refine (KV.out _).mono ?_
    rintro e W16 ⟨rfl, hb16⟩
    have k267 : W16.cell? ⟨w.heap.size, 0, none⟩ = some (.int .i64 a) := kept1 k250 hb16
    have k268 : W16.cell? ⟨w.heap.size, 1, none⟩ = some (.int .i64 b) := kept1 k251 hb16
    have k269 : W16.cell? ⟨w.heap.size, 2, none⟩ = some (.int .i64 c) := kept1 k252 hb16
    have k270 : W16.cell? ⟨w.heap.size, 3, none⟩ = some (.int .i64 d) := kept1 k253 hb16
    have k271 : W16.cell? ⟨W11.heap.size, 0, none⟩ = some (.int .i64 0) := kept1 k260 hb16
    have k272 : W16.cell? ⟨W11.heap.size, 1, none⟩ = some (.int .i64 0) := kept1 k261 hb16
    have lk267 : w.heap.size < W16.heap.size := block_lt_of_cell k267
    have lk271 : W11.heap.size < W16.heap.size := block_lt_of_cell k271
    have hv16 : Below w.heap.size w W16 := bstep0 hv15 hb16
    clear hb16 hv15 k250 k251 k252 k253 k260 k261 lk250 lk260
    go_wp2_with fail
    refine (sanity_tab hT _ (below_alloc hv16 _)).mono ?_
    rintro e W17 ⟨rfl, hb17⟩
    have k273 : W17.cell? ⟨w.heap.size, 0, none⟩ = some (.int .i64 a) := kept_a1 k267 hb17
    have k274 : W17.cell? ⟨w.heap.size, 1, none⟩ = some (.int .i64 b) := kept_a1 k268 hb17
    have k275 : W17.cell? ⟨w.heap.size, 2, none⟩ = some (.int .i64 c) := kept_a1 k269 hb17
    have k276 : W17.cell? ⟨w.heap.size, 3, none⟩ = some (.int .i64 d) := kept_a1 k270 hb17
    have k277 : W17.cell? ⟨W11.heap.size, 0, none⟩ = some (.int .i64 0) := kept_a1 k271 hb17
    have k278 : W17.cell? ⟨W11.heap.size, 1, none⟩ = some (.int .i64 0) := kept_a1 k272 hb17
    have k279 : W17.cell? ⟨W16.heap.size, 0, none⟩ = some (.int .i64 lo) := kept1 (by simp [go_sem]) hb17
    have k280 : W17.cell? ⟨W16.heap.size, 1, none⟩ = some (.int .i64 hi) := kept1 (by simp [go_sem]) hb17
    have lk273 : w.heap.size < W17.heap.size := block_lt_of_cell k273
    have lk277 : W11.heap.size < W17.heap.size := block_lt_of_cell k277
    have lk279 : W16.heap.size < W17.heap.size := block_lt_of_cell k279
    have hv17 : Below w.heap.size w W17 := bstep1 hv16 hb17
    clear hb17 hv16 k267 k268 k269 k270 k271 k272 lk267 lk271
    go_wp2
    go_ret
    exact ⟨by first | rfl | simp, (by repeat (first | with_reducible exact Below.refl _ _ | with_reducible assumption | refine below_drewN ?_ _ | refine Below.drew ?_ | refine Below.alloc ?_ (by first | (simp; done) | (simp; omega) | omega) _ | refine Below.setCell ?_ (by first | (simp; done) | (simp; omega) | omega) _ | refine Below.trans ?_ (Below.mono (by assumption) (by first | (simp; done) | (simp; omega) | omega))))⟩

set_option maxRecDepth 100000 in
set_option maxHeartbeats 8000000 in
theorem ranges_TFTT (a b c d p q r s i j v1 v2 v3 v4 te lo hi : Int) (t : Bool) (KX : Hid (∀ W : World, Calls Tryd.prog 50 #[.agg #[.int .i64 a, .int .i64 b, .int .i64 c, .int .i64 d]] W fun e w' => e = .returned (.bool true) ∧ Below W.heap.size W w')) (KY : Hid (∀ W : World, Calls Tryd.prog 50 #[.agg #[.int .i64 p, .int .i64 q, .int .i64 r, .int .i64 s]] W fun e w' => e = .returned (.bool false) ∧ Below W.heap.size W w')) (KA : Hid (∀ W : World, Calls Tryd.prog 22 #[.agg #[.int .i64 i, .int .i64 j]] W fun e w' => e = .returned (.bool true) ∧ Below W.heap.size W w')) (EX : Hid (∀ W : World, Calls Tryd.prog 54 #[.agg #[.int .i64 a, .int .i64 b, .int .i64 c, .int .i64 d]] W fun e w' => e = .returned (.bool true) ∧ Below W.heap.size W w')) (EH : Hid (∀ W : World, Calls Tryd.prog 55 #[.agg #[.int .i64 a, .int .i64 b, .int .i64 c, .int .i64 d], .agg #[.int .i64 i, .int .i64 j]] W fun e w' => e = .returned (.bool t) ∧ Below W.heap.size W w')) (KH : Hid (∀ W : World, Calls Tryd.prog 56 #[.agg #[.int .i64 a, .int .i64 b, .int .i64 c, .int .i64 d], .agg #[.int .i64 i, .int .i64 j]] W fun e w' => e = .returned (.bool t) ∧ Below W.heap.size W w')) (EM : Hid (∀ W : World, Calls Tryd.prog 57 #[.agg #[.int .i64 a, .int .i64 b, .int .i64 c, .int .i64 d], .agg #[.int .i64 p, .int .i64 q, .int .i64 r, .int .i64 s]] W fun e' w' => e' = .returned (.tuple #[.agg #[.int .i64 0, .int .i64 0, .int .i64 0, .int .i64 0], .int .i64 1]) ∧ Below W.heap.size W w')) (EU : Hid (∀ W : World, Calls Tryd.prog 58 #[.agg #[.int .i64 a, .int .i64 b, .int .i64 c, .int .i64 d], .agg #[.int .i64 p, .int .i64 q, .int .i64 r, .int .i64 s]] W fun e w' => e = .returned (.tuple #[.agg #[.int .i64 0, .int .i64 0, .int .i64 0, .int .i64 0], .int .i64 1]) ∧ Below W.heap.size W w')) (ES : Hid (∀ W : World, Calls Tryd.prog 59 #[.agg #[.int .i64 a, .int .i64 b, .int .i64 c, .int .i64 d], .agg #[.int .i64 p, .int .i64 q, .int .i64 r, .int .i64 s]] W fun e w' => e = .returned (.tuple #[.agg #[.int .i64 0, .int .i64 0, .int .i64 0, .int .i64 0], .int .i64 1]) ∧ Below W.heap.size W w')) (ET : Hid (∀ W : World, Calls Tryd.prog 60 #[.agg #[.int .i64 a, .int .i64 b, .int .i64 c, .int .i64 d], .agg #[.int .i64 i, .int .i64 j]] W fun e w' => e = .returned (.tuple #[.agg #[.int .i64 v1, .int .i64 v2, .int .i64 v3, .int .i64 v4], .int .i64 te]) ∧ Below W.heap.size W w')) (EV : Hid (∀ W : World, Calls Tryd.prog 61 #[.agg #[.int .i64 a, .int .i64 b, .int .i64 c, .int .i64 d]] W fun e w' => e = .returned (.tuple #[.agg #[.int .i64 lo, .int .i64 hi], .int .i64 0]) ∧ Below W.heap.size W w')) (KT : Hid (∀ W : World, Calls Tryd.prog 66 #[.agg #[.int .i64 a, .int .i64 b, .int .i64 c, .int .i64 d], .agg #[.int .i64 i, .int .i64 j]] W fun e w' => e = .returned (.agg #[.int .i64 v1, .int .i64 v2, .int .i64 v3, .int .i64 v4, .int .i64 te]) ∧ Below W.heap.size W w')) (KV : Hid (∀ W : World, Calls Tryd.prog 67 #[.agg #[.int .i64 a, .int .i64 b, .int .i64 c, .int .i64 d]] W fun e w' => e = .returned (.tuple #[.agg #[.int .i64 lo, .int .i64 hi], .bool true]) ∧ Below W.heap.size W w')) (w : World) (hT : Hid (Tab w.heap.size w)) :
    Calls Tryd.prog 9 #[.agg #[.int .i64 a, .int .i64 b, .int .i64 c, .int .i64 d], .agg #[.int .i64 p, .int .i64 q, .int .i64 r, .int .i64 s], .agg #[.int .i64 i, .int .i64 j]] w fun e w' => e = .returned (.bool true) ∧ Below w.heap.size w w' := by
  go_enter Tryd.func9, Tryd.ntmps9
  go_wp2_with fail
  refine (KX.out _).mono ?_
  rintro e W1 ⟨rfl, hb1⟩
  have k1 : W1.cell? ⟨w.heap.size, 0, none⟩ = some (.int .i64 a) := kept1 (by simp [go_sem]) hb1
  have k2 : W1.cell? ⟨w.heap.size, 1, none⟩ = some (.int .i64 b) := kept1 (by simp [go_sem]) hb1
  have k3 : W1.cell? ⟨w.heap.size, 2, none⟩ = some (.int .i64 c) := kept1 (by simp [go_sem]) hb1
  have k4 : W1.cell? ⟨w.heap.size, 3, none⟩ = some (.int .i64 d) := kept1 (by simp [go_sem]) hb1
  have k5 : W1.cell? ⟨w.heap.size + 1, 0, none⟩ = some (.int .i64 p) := kept1 (by simp [go_sem]) hb1
  have k6 : W1.cell? ⟨w.heap.size + 1, 1, none⟩ = some (.int .i64 q) := kept1 (by simp [go_sem]) hb1
  have k7 : W1.cell? ⟨w.heap.size + 1, 2, none⟩ = some (.int .i64 r) := kept1 (by simp [go_sem]) hb1
  have k8 : W1.cell? ⟨w.heap.size + 1, 3, none⟩ = some (.int .i64 s) := kept1 (by simp [go_sem]) hb1
  have k9 : W1.cell? ⟨w.heap.size + 1 + 1, 0, none⟩ = some (.int .i64 i) := kept1 (by simp [go_sem]) hb1
  have k10 : W1.cell? ⟨w.heap.size + 1 + 1, 1, none⟩ = some (.int .i64 j) := kept1 (by simp [go_sem]) hb1
  have lk1 : w.heap.size < W1.heap.size := block_lt_of_cell k1
  have lk5 : w.heap.size + 1 < W1.heap.size := block_lt_of_cell k5
  have lk9 : w.heap.size + 1 + 1 < W1.heap.size := block_lt_of_cell k9
  have hv1 : Below w.heap.size w W1 := bstep3 (Below.refl _ _) hb1
  clear hb1  
  go_wp2_with fail
  refine (KY.out _).mono ?_
  rintro e W2 ⟨rfl, hb2⟩
  have k11 : W2.cell? ⟨w.heap.size, 0, none⟩ = some (.int .i64 a) := kept1 k1 hb2
  have k12 : W2.cell? ⟨w.heap.size, 1, none⟩ = some (.int .i64 b) := kept1 k2 hb2
  have k13 : W2.cell? ⟨w.heap.size, 2, none⟩ = some (.int .i64 c) := kept1 k3 hb2
  have k14 : W2.cell? ⟨w.heap.size, 3, none⟩ = some (.int .i64 d) := kept1 k4 hb2
  have k15 : W2.cell? ⟨w.heap.size + 1, 0, none⟩ = some (.int .i64 p) := kept1 k5 hb2
  have k16 : W2.cell? ⟨w.heap.size + 1, 1, none⟩ = some (.int .i64 q) := kept1 k6 hb2
  have k17 : W2.cell? ⟨w.heap.size + 1, 2, none⟩ = some (.int .i64 r) := kept1 k7 hb2
  have k18 : W2.cell? ⟨w.heap.size + 1, 3, none⟩ = some (.int .i64 s) := kept1 k8 hb2
  have k19 : W2.cell? ⟨w.heap.size + 1 + 1, 0, none⟩ = some (.int .i64 i) := kept1 k9 hb2
  have k20 : W2.cell? ⟨w.heap.size + 1 + 1, 1, none⟩ = some (.int .i64 j) := kept1 k10 hb2
  have lk11 : w.heap.size < W2.heap.size := block_lt_of_cell k11
  have lk15 : w.heap.size + 1 < W2.heap.size := block_lt_of_cell k15
  have lk19 : w.heap.size + 1 + 1 < W2.heap.size := block_lt_of_cell k19
  have hv2 : Below w.heap.size w W2 := bstep0 hv1 hb2
  clear hb2 hv1 k1 k2 k3 k4 k5 k6 k7 k8 k9 k10 lk1 lk5 lk9
  go_wp2_with fail
  refine (KA.out _).mono ?_
  rintro e W3 ⟨rfl, hb3⟩
  have k21 : W3.cell? ⟨w.heap.size, 0, none⟩ = some (.int .i64 a) := kept1 k11 hb3
  have k22 : W3.cell? ⟨w.heap.size, 1, none⟩ = some (.int .i64 b) := kept1 k12 hb3
  have k23 : W3.cell? ⟨w.heap.size, 2, none⟩ = some (.int .i64 c) := kept1 k13 hb3
  have k24 : W3.cell? ⟨w.heap.size, 3, none⟩ = some (.int .i64 d) := kept1 k14 hb3
  have k25 : W3.cell? ⟨w.heap.size + 1, 0, none⟩ = some (.int .i64 p) := kept1 k15 hb3
  have k26 : W3.cell? ⟨w.heap.size + 1, 1, none⟩ = some (.int .i64 q) := kept1 k16 hb3
  have k27 : W3.cell? ⟨w.heap.size + 1, 2, none⟩ = some (.int .i64 r) := kept1 k17 hb3
  have k28 : W3.cell? ⟨w.heap.size + 1, 3, none⟩ = some (.int .i64 s) := kept1 k18 hb3
  have k29 : W3.cell? ⟨w.heap.size + 1 + 1, 0, none⟩ = some (.int .i64 i) := kept1 k19 hb3
  have k30 : W3.cell? ⟨w.heap.size + 1 + 1, 1, none⟩ = some (.int .i64 j) := kept1 k20 hb3
  have lk21 : w.heap.size < W3.heap.size := block_lt_of_cell k21
  have lk25 : w.heap.size + 1 < W3.heap.size := block_lt_of_cell k25
  have lk29 : w.heap.size + 1 + 1 < W3.heap.size := block_lt_of_cell k29
  have hv3 : Below w.heap.size w W3 := bstep0 hv2 hb3
  clear hb3 hv2 k11 k12 k13 k14 k15 k16 k17 k18 k19 k20 lk11 lk15 lk19
  go_wp2_with fail
  refine (EX.out _).mono ?_
  rintro e W4 ⟨rfl, hb4⟩
  have k31 : W4.cell? ⟨w.heap.size, 0, none⟩ = some (.int .i64 a) := kept1 k21 hb4
  have k32 : W4.cell? ⟨w.heap.size, 1, none⟩ = some (.int .i64 b) := kept1 k22 hb4
  have k33 : W4.cell? ⟨w.heap.size, 2, none⟩ = some (.int .i64 c) := kept1 k23 hb4
  have k34 : W4.cell? ⟨w.heap.size, 3, none⟩ = some (.int .i64 d) := kept1 k24 hb4
  have k35 : W4.cell? ⟨w.heap.size + 1, 0, none⟩ = some (.int .i64 p) := kept1 k25 hb4
  have k36 : W4.cell? ⟨w.heap.size + 1, 1, none⟩ = some (.int .i64 q) := kept1 k26 hb4
  have k37 : W4.cell? ⟨w.heap.size + 1, 2, none⟩ = some (.int .i64 r) := kept1 k27 hb4
  have k38 : W4.cell? ⟨w.heap.size + 1, 3, none⟩ = some (.int .i64 s) := kept1 k28 hb4
  have k39 : W4.cell? ⟨w.heap.size + 1 + 1, 0, none⟩ = some (.int .i64 i) := kept1 k29 hb4
  have k40 : W4.cell? ⟨w.heap.size + 1 + 1, 1, none⟩ = some (.int .i64 j) := kept1 k30 hb4
  have lk31 : w.heap.size < W4.heap.size := block_lt_of_cell k31
  have lk35 : w.heap.size + 1 < W4.heap.size := block_lt_of_cell k35
  have lk39 : w.heap.size + 1 + 1 < W4.heap.size := block_lt_of_cell k39
  have hv4 : Below w.heap.size w W4 := bstep0 hv3 hb4
  clear hb4 hv3 k21 k22 k23 k24 k25 k26 k27 k28 k29 k30 lk21 lk25 lk29
  go_wp2_with fail
  refine (EH.out _).mono ?_
  rintro e W5 ⟨rfl, hb5⟩
  have k41 : W5.cell? ⟨w.heap.size, 0, none⟩ = some (.int .i64 a) := kept1 k31 hb5
  have k42 : W5.cell? ⟨w.heap.size, 1, none⟩ = some (.int .i64 b) := kept1 k32 hb5
  have k43 : W5.cell? ⟨w.heap.size, 2, none⟩ = some (.int .i64 c) := kept1 k33 hb5
  have k44 : W5.cell? ⟨w.heap.size, 3, none⟩ = some (.int .i64 d) := kept1 k34 hb5
  have k45 : W5.cell? ⟨w.heap.size + 1, 0, none⟩ = some (.int .i64 p) := kept1 k35 hb5
  have k46 : W5.cell? ⟨w.heap.size + 1, 1, none⟩ = some (.int .i64 q) := kept1 k36 hb5
  have k47 : W5.cell? ⟨w.heap.size + 1, 2, none⟩ = some (.int .i64 r) := kept1 k37 hb5
  have k48 : W5.cell? ⟨w.heap.size + 1, 3, none⟩ = some (.int .i64 s) := kept1 k38 hb5
  have k49 : W5.cell? ⟨w.heap.size + 1 + 1, 0, none⟩ = some (.int .i64 i) := kept1 k39 hb5
  have k50 : W5.cell? ⟨w.heap.size + 1 + 1, 1, none⟩ = some (.int .i64 j) := kept1 k40 hb5
  have lk41 : w.heap.size < W5.heap.size := block_lt_of_cell k41
  have lk45 : w.heap.size + 1 < W5.heap.size := block_lt_of_cell k45
  have lk49 : w.heap.size + 1 + 1 < W5.heap.size := block_lt_of_cell k49
  have hv5 : Below w.heap.size w W5 := bstep0 hv4 hb5
  clear hb5 hv4 k31 k32 k33 k34 k35 k36 k37 k38 k39 k40 lk31 lk35 lk39
  go_wp2_with fail
  refine (KH.out _).mono ?_
  rintro e W6 ⟨rfl, hb6⟩
  have k51 : W6.cell? ⟨w.heap.size, 0, none⟩ = some (.int .i64 a) := kept1 k41 hb6
  have k52 : W6.cell? ⟨w.heap.size, 1, none⟩ = some (.int .i64 b) := kept1 k42 hb6
  have k53 : W6.cell? ⟨w.heap.size, 2, none⟩ = some (.int .i64 c) := kept1 k43 hb6
  have k54 : W6.cell? ⟨w.heap.size, 3, none⟩ = some (.int .i64 d) := kept1 k44 hb6
  have k55 : W6.cell? ⟨w.heap.size + 1, 0, none⟩ = some (.int .i64 p) := kept1 k45 hb6
  have k56 : W6.cell? ⟨w.heap.size + 1, 1, none⟩ = some (.int .i64 q) := kept1 k46 hb6
  have k57 : W6.cell? ⟨w.heap.size + 1, 2, none⟩ = some (.int .i64 r) := kept1 k47 hb6
  have k58 : W6.cell? ⟨w.heap.size + 1, 3, none⟩ = some (.int .i64 s) := kept1 k48 hb6
  have k59 : W6.cell? ⟨w.heap.size + 1 + 1, 0, none⟩ = some (.int .i64 i) := kept1 k49 hb6
  have k60 : W6.cell? ⟨w.heap.size + 1 + 1, 1, none⟩ = some (.int .i64 j) := kept1 k50 hb6
  have lk51 : w.heap.size < W6.heap.size := block_lt_of_cell k51
  have lk55 : w.heap.size + 1 < W6.heap.size := block_lt_of_cell k55
  have lk59 : w.heap.size + 1 + 1 < W6.heap.size := block_lt_of_cell k59
  have hv6 : Below w.heap.size w W6 := bstep0 hv5 hb6
  clear hb6 hv5 k41 k42 k43 k44 k45 k46 k47 k48 k49 k50 lk41 lk45 lk49
  go_wp2_with fail
  refine (EM.out _).mono ?_
  rintro e W7 ⟨rfl, hb7⟩
  have k61 : W7.cell? ⟨w.heap.size, 0, none⟩ = some (.int .i64 a) := kept1 k51 hb7
  have k62 : W7.cell? ⟨w.heap.size, 1, none⟩ = some (.int .i64 b) := kept1 k52 hb7
  have k63 : W7.cell? ⟨w.heap.size, 2, none⟩ = some (.int .i64 c) := kept1 k53 hb7
  have k64 : W7.cell? ⟨w.heap.size, 3, none⟩ = some (.int .i64 d) := kept1 k54 hb7
  have k65 : W7.cell? ⟨w.heap.size + 1, 0, none⟩ = some (.int .i64 p) := kept1 k55 hb7
  have k66 : W7.cell? ⟨w.heap.size + 1, 1, none⟩ = some (.int .i64 q) := kept1 k56 hb7
  have k67 : W7.cell? ⟨w.heap.size + 1, 2, none⟩ = some (.int .i64 r) := kept1 k57 hb7
  have k68 : W7.cell? ⟨w.heap.size + 1, 3, none⟩ = some (.int .i64 s) := kept1 k58 hb7
  have k69 : W7.cell? ⟨w.heap.size + 1 + 1, 0, none⟩ = some (.int .i64 i) := kept1 k59 hb7
  have k70 : W7.cell? ⟨w.heap.size + 1 + 1, 1, none⟩ = some (.int .i64 j) := kept1 k60 hb7
  have lk61 : w.heap.size < W7.heap.size := block_lt_of_cell k61
  have lk65 : w.heap.size + 1 < W7.heap.size := block_lt_of_cell k65
  have lk69 : w.heap.size + 1 + 1 < W7.heap.size := block_lt_of_cell k69
  have hv7 : Below w.heap.size w W7 := bstep0 hv6 hb7
  clear hb7 hv6 k51 k52 k53 k54 k55 k56 k57 k58 k59 k60 lk51 lk55 lk59
  go_wp2_with fail
  refine (EU.out _).mono ?_
  rintro e W8 ⟨rfl, hb8⟩
  have k71 : W8.cell? ⟨w.heap.size, 0, none⟩ = some (.int .i64 a) := kept_a1 k61 hb8
  have k72 : W8.cell? ⟨w.heap.size, 1, none⟩ = some (.int .i64 b) := kept_a1 k62 hb8
  have k73 : W8.cell? ⟨w.heap.size, 2, none⟩ = some (.int .i64 c) := kept_a1 k63 hb8
  have k74 : W8.cell? ⟨w.heap.size, 3, none⟩ = some (.int .i64 d) := kept_a1 k64 hb8
  have k75 : W8.cell? ⟨w.heap.size + 1, 0, none⟩ = some (.int .i64 p) := kept_a1 k65 hb8
  have k76 : W8.cell? ⟨w.heap.size + 1, 1, none⟩ = some (.int .i64 q) := kept_a1 k66 hb8
  have k77 : W8.cell? ⟨w.heap.size + 1, 2, none⟩ = some (.int .i64 r) := kept_a1 k67 hb8
  have k78 : W8.cell? ⟨w.heap.size + 1, 3, none⟩ = some (.int .i64 s) := kept_a1 k68 hb8
  have k79 : W8.cell? ⟨w.heap.size + 1 + 1, 0, none⟩ = some (.int .i64 i) := kept_a1 k69 hb8
  have k80 : W8.cell? ⟨w.heap.size + 1 + 1, 1, none⟩ = some (.int .i64 j) := kept_a1 k70 hb8
  have k81 : W8.cell? ⟨W7.heap.size, 0, none⟩ = some (.int .i64 0) := kept1 (by simp [go_sem]) hb8
  have k82 : W8.cell? ⟨W7.heap.size, 1, none⟩ = some (.int .i64 0) := kept1 (by simp [go_sem]) hb8
  have k83 : W8.cell? ⟨W7.heap.size, 2, none⟩ = some (.int .i64 0) := kept1 (by simp [go_sem]) hb8
  have k84 : W8.cell? ⟨W7.heap.size, 3, none⟩ = some (.int .i64 0) := kept1 (by simp [go_sem]) hb8
  have lk71 : w.heap.size < W8.heap.size := block_lt_of_cell k71
  have lk75 : w.heap.size + 1 < W8.heap.size := block_lt_of_cell k75
  have lk79 : w.heap.size + 1 + 1 < W8.heap.size := block_lt_of_cell k79
  have lk81 : W7.heap.size < W8.heap.size := block_lt_of_cell k81
  have hv8 : Below w.heap.size w W8 := bstep1 hv7 hb8
  clear hb8 hv7 k61 k62 k63 k64 k65 k66 k67 k68 k69 k70 lk61 lk65 lk69
  go_wp2_with fail
  refine (ES.out _).mono ?_
  rintro e W9 ⟨rfl, hb9⟩
  have k85 : W9.cell? ⟨w.heap.size, 0, none⟩ = some (.int .i64 a) := kept_a1 k71 hb9
  have k86 : W9.cell? ⟨w.heap.size, 1, none⟩ = some (.int .i64 b) := kept_a1 k72 hb9
  have k87 : W9.cell? ⟨w.heap.size, 2, none⟩ = some (.int .i64 c) := kept_a1 k73 hb9
  have k88 : W9.cell? ⟨w.heap.size, 3, none⟩ = some (.int .i64 d) := kept_a1 k74 hb9
  have k89 : W9.cell? ⟨w.heap.size + 1, 0, none⟩ = some (.int .i64 p) := kept_a1 k75 hb9
  have k90 : W9.cell? ⟨w.heap.size + 1, 1, none⟩ = some (.int .i64 q) := kept_a1 k76 hb9
  have k91 : W9.cell? ⟨w.heap.size + 1, 2, none⟩ = some (.int .i64 r) := kept_a1 k77 hb9
  have k92 : W9.cell? ⟨w.heap.size + 1, 3, none⟩ = some (.int .i64 s) := kept_a1 k78 hb9
  have k93 : W9.cell? ⟨w.heap.size + 1 + 1, 0, none⟩ = some (.int .i64 i) := kept_a1 k79 hb9
  have k94 : W9.cell? ⟨w.heap.size + 1 + 1, 1, none⟩ = some (.int .i64 j) := kept_a1 k80 hb9
  have k95 : W9.cell? ⟨W7.heap.size, 0, none⟩ = some (.int .i64 0) := kept_a1 k81 hb9
  have k96 : W9.cell? ⟨W7.heap.size, 1, none⟩ = some (.int .i64 0) := kept_a1 k82 hb9
  have k97 : W9.cell? ⟨W7.heap.size, 2, none⟩ = some (.int .i64 0) := kept_a1 k83 hb9
  have k98 : W9.cell? ⟨W7.heap.size, 3, none⟩ = some (.int .i64 0) := kept_a1 k84 hb9
  have k99 : W9.cell? ⟨W8.heap.size, 0, none⟩ = some (.int .i64 0) := kept1 (by simp [go_sem]) hb9
  have k100 : W9.cell? ⟨W8.heap.size, 1, none⟩ = some (.int .i64 0) := kept1 (by simp [go_sem]) hb9
  have k101 : W9.cell? ⟨W8.heap.size, 2, none⟩ = some (.int .i64 0) := kept1 (by simp [go_sem]) hb9
  have k102 : W9.cell? ⟨W8.heap.size, 3, none⟩ = some (.int .i64 0) := kept1 (by simp [go_sem]) hb9
  have lk85 : w.heap.size < W9.heap.size := block_lt_of_cell k85
  have lk89 : w.heap.size + 1 < W9.heap.size := block_lt_of_cell k89
  have lk93 : w.heap.size + 1 + 1 < W9.heap.size := block_lt_of_cell k93
  have lk95 : W7.heap.size < W9.heap.size := block_lt_of_cell k95
  have lk99 : W8.heap.size < W9.heap.size := block_lt_of_cell k99
  have hv9 : Below w.heap.size w W9 := bstep1 hv8 hb9
  clear hb9 hv8 k71 k72 k73 k74 k75 k76 k77 k78 k79 k80 k81 k82 k83 k84 lk71 lk75 lk79 lk81
  go_wp2_with fail
  refine (ET.out _).mono ?_
  rintro e W10 ⟨rfl, hb10⟩
  have k103 : W10.cell? ⟨w.heap.size, 0, none⟩ = some (.int .i64 a) := kept_a1 k85 hb10
  have k104 : W10.cell? ⟨w.heap.size, 1, none⟩ = some (.int .i64 b) := kept_a1 k86 hb10
  have k105 : W10.cell? ⟨w.heap.size, 2, none⟩ = some (.int .i64 c) := kept_a1 k87 hb10
  have k106 : W10.cell? ⟨w.heap.size, 3, none⟩ = some (.int .i64 d) := kept_a1 k88 hb10
  have k107 : W10.cell? ⟨w.heap.size + 1, 0, none⟩ = some (.int .i64 p) := kept_a1 k89 hb10
  have k108 : W10.cell? ⟨w.heap.size + 1, 1, none⟩ = some (.int .i64 q) := kept_a1 k90 hb10
  have k109 : W10.cell? ⟨w.heap.size + 1, 2, none⟩ = some (.int .i64 r) := kept_a1 k91 hb10
  have k110 : W10.cell? ⟨w.heap.size + 1, 3, none⟩ = some (.int .i64 s) := kept_a1 k92 hb10
  have k111 : W10.cell? ⟨w.heap.size + 1 + 1, 0, none⟩ = some (.int .i64 i) := kept_a1 k93 hb10
  have k112 : W10.cell? ⟨w.heap.size + 1 + 1, 1, none⟩ = some (.int .i64 j) := kept_a1 k94 hb10
  have k113 : W10.cell? ⟨W7.heap.size, 0, none⟩ = some (.int .i64 0) := kept_a1 k95 hb10
  have k114 : W10.cell? ⟨W7.heap.size, 1, none⟩ = some (.int .i64 0) := kept_a1 k96 hb10
  have k115 : W10.cell? ⟨W7.heap.size, 2, none⟩ = some (.int .i64 0) := kept_a1 k97 hb10
  have k116 : W10.cell? ⟨W7.heap.size, 3, none⟩ = some (.int .i64 0) := kept_a1 k98 hb10
  have k117 : W10.cell? ⟨W8.heap.size, 0, none⟩ = some (.int .i64 0) := kept_a1 k99 hb10
  have k118 : W10.cell? ⟨W8.heap.size, 1, none⟩ = some (.int .i64 0) := kept_a1 k100 hb10
  have k119 : W10.cell? ⟨W8.heap.size, 2, none⟩ = some (.int .i64 0) := kept_a1 k101 hb10
  have k120 : W10.cell? ⟨W8.heap.size, 3, none⟩ = some (.int .i64 0) := kept_a1 k102 hb10
  have k121 : W10.cell? ⟨W9.heap.size, 0, none⟩ = some (.int .i64 0) := kept1 (by simp [go_sem]) hb10
  have k122 : W10.cell? ⟨W9.heap.size, 1, none⟩ = some (.int .i64 0) := kept1 (by simp [go_sem]) hb10
  have k123 : W10.cell? ⟨W9.heap.size, 2, none⟩ = some (.int .i64 0) := kept1 (by simp [go_sem]) hb10
  have k124 : W10.cell? ⟨W9.heap.size, 3, none⟩ = some (.int .i64 0) := kept1 (by simp [go_sem]) hb10
  have lk103 : w.heap.size < W10.heap.size := block_lt_of_cell k103
  have lk107 : w.heap.size + 1 < W10.heap.size := block_lt_of_cell k107
  have lk111 : w.heap.size + 1 + 1 < W10.heap.size := block_lt_of_cell k111
  have lk113 : W7.heap.size < W10.heap.size := block_lt_of_cell k113
  have lk117 : W8.heap.size < W10.heap.size := block_lt_of_cell k117
  have lk121 : W9.heap.size < W10.heap.size := block_lt_of_cell k121
  have hv10 : Below w.heap.size w W10 := bstep1 hv9 hb10
  clear hb10 hv9 k85 k86 k87 k88 k89 k90 k91 k92 k93 k94 k95 k96 k97 k98 k99 k100 k101 k102 lk85 lk89 lk93 lk95 lk99
  go_wp2_with fail
  refine (EV.out _).mono ?_
  rintro e W11 ⟨rfl, hb11⟩
  have k125 : W11.cell? ⟨w.heap.size, 0, none⟩ = some (.int .i64 a) := kept_a1 k103 hb11
  have k126 : W11.cell? ⟨w.heap.size, 1, none⟩ = some (.int .i64 b) := kept_a1 k104 hb11
  have k127 : W11.cell? ⟨w.heap.size, 2, none⟩ = some (.int .i64 c) := kept_a1 k105 hb11
  have k128 : W11.cell? ⟨w.heap.size, 3, none⟩ = some (.int .i64 d) := kept_a1 k106 hb11
  have k129 : W11.cell? ⟨w.heap.size + 1, 0, none⟩ = some (.int .i64 p) := kept_a1 k107 hb11
  have k130 : W11.cell? ⟨w.heap.size + 1, 1, none⟩ = some (.int .i64 q) := kept_a1 k108 hb11
  have k131 : W11.cell? ⟨w.heap.size + 1, 2, none⟩ = some (.int .i64 r) := kept_a1 k109 hb11
  have k132 : W11.cell? ⟨w.heap.size + 1, 3, none⟩ = some (.int .i64 s) := kept_a1 k110 hb11
  have k133 : W11.cell? ⟨w.heap.size + 1 + 1, 0, none⟩ = some (.int .i64 i) := kept_a1 k111 hb11
  have k134 : W11.cell? ⟨w.heap.size + 1 + 1, 1, none⟩ = some (.int .i64 j) := kept_a1 k112 hb11
  have k135 : W11.cell? ⟨W7.heap.size, 0, none⟩ = some (.int .i64 0) := kept_a1 k113 hb11
  have k136 : W11.cell? ⟨W7.heap.size, 1, none⟩ = some (.int .i64 0) := kept_a1 k114 hb11
  have k137 : W11.cell? ⟨W7.heap.size, 2, none⟩ = some (.int .i64 0) := kept_a1 k115 hb11
  have k138 : W11.cell? ⟨W7.heap.size, 3, none⟩ = some (.int .i64 0) := kept_a1 k116 hb11
  have k139 : W11.cell? ⟨W8.heap.size, 0, none⟩ = some (.int .i64 0) := kept_a1 k117 hb11
  have k140 : W11.cell? ⟨W8.heap.size, 1, none⟩ = some (.int .i64 0) := kept_a1 k118 hb11
  have k141 : W11.cell? ⟨W8.heap.size, 2, none⟩ = some (.int .i64 0) := kept_a1 k119 hb11
  have k142 : W11.cell? ⟨W8.heap.size, 3, none⟩ = some (.int .i64 0) := kept_a1 k120 hb11
  have k143 : W11.cell? ⟨W9.heap.size, 0, none⟩ = some (.int .i64 0) := kept_a1 k121 hb11
  have k144 : W11.cell? ⟨W9.heap.size, 1, none⟩ = some (.int .i64 0) := kept_a1 k122 hb11
  have k145 : W11.cell? ⟨W9.heap.size, 2, none⟩ = some (.int .i64 0) := kept_a1 k123 hb11
  have k146 : W11.cell? ⟨W9.heap.size, 3, none⟩ = some (.int .i64 0) := kept_a1 k124 hb11
  have k147 : W11.cell? ⟨W10.heap.size, 0, none⟩ = some (.int .i64 v1) := kept1 (by simp [go_sem]) hb11
  have k148 : W11.cell? ⟨W10.heap.size, 1, none⟩ = some (.int .i64 v2) := kept1 (by simp [go_sem]) hb11
  have k149 : W11.cell? ⟨W10.heap.size, 2, none⟩ = some (.int .i64 v3) := kept1 (by simp [go_sem]) hb11
  have k150 : W11.cell? ⟨W10.heap.size, 3, none⟩ = some (.int .i64 v4) := kept1 (by simp [go_sem]) hb11
  have lk125 : w.heap.size < W11.heap.size := block_lt_of_cell k125
  have lk129 : w.heap.size + 1 < W11.heap.size := block_lt_of_cell k129
  have lk133 : w.heap.size + 1 + 1 < W11.heap.size := block_lt_of_cell k133
  have lk135 : W7.heap.size < W11.heap.size := block_lt_of_cell k135
  have lk139 : W8.heap.size < W11.heap.size := block_lt_of_cell k139
  have lk143 : W9.heap.size < W11.heap.size := block_lt_of_cell k143
  have lk147 : W10.heap.size < W11.heap.size := block_lt_of_cell k147
  have hv11 : Below w.heap.size w W11 := bstep1 hv10 hb11
  clear hb11 hv10 k103 k104 k105 k106 k107 k108 k109 k110 k111 k112 k113 k114 k115 k116 k117 k118 k119 k120 k121 k122 k123 k124 lk103 lk107 lk111 lk113 lk117 lk121
  go_wp2_with fail
  refine (as_yes 0 0 0 0 1 _).mono ?_
  rintro e W12 ⟨rfl, hb12⟩
  have k151 : W12.cell? ⟨w.heap.size, 0, none⟩ = some (.int .i64 a) := kept_a2 k125 hb12
  have k152 : W12.cell? ⟨w.heap.size, 1, none⟩ = some (.int .i64 b) := kept_a2 k126 hb12
  have k153 : W12.cell? ⟨w.heap.size, 2, none⟩ = some (.int .i64 c) := kept_a2 k127 hb12
  have k154 : W12.cell? ⟨w.heap.size, 3, none⟩ = some (.int .i64 d) := kept_a2 k128 hb12
  have k155 : W12.cell? ⟨w.heap.size + 1, 0, none⟩ = some (.int .i64 p) := kept_a2 k129 hb12
  have k156 : W12.cell? ⟨w.heap.size + 1, 1, none⟩ = some (.int .i64 q) := kept_a2 k130 hb12
  have k157 : W12.cell? ⟨w.heap.size + 1, 2, none⟩ = some (.int .i64 r) := kept_a2 k131 hb12
  have k158 : W12.cell? ⟨w.heap.size + 1, 3, none⟩ = some (.int .i64 s) := kept_a2 k132 hb12
  have k159 : W12.cell? ⟨w.heap.size + 1 + 1, 0, none⟩ = some (.int .i64 i) := kept_a2 k133 hb12
  have k160 : W12.cell? ⟨w.heap.size + 1 + 1, 1, none⟩ = some (.int .i64 j) := kept_a2 k134 hb12
  have k161 : W12.cell? ⟨W7.heap.size, 0, none⟩ = some (.int .i64 0) := kept_a2 k135 hb12
  have k162 : W12.cell? ⟨W7.heap.size, 1, none⟩ = some (.int .i64 0) := kept_a2 k136 hb12
  have k163 : W12.cell? ⟨W7.heap.size, 2, none⟩ = some (.int .i64 0) := kept_a2 k137 hb12
  have k164 : W12.cell? ⟨W7.heap.size, 3, none⟩ = some (.int .i64 0) := kept_a2 k138 hb12
  have k165 : W12.cell? ⟨W8.heap.size, 0, none⟩ = some (.int .i64 0) := kept_a2 k139 hb12
  have k166 : W12.cell? ⟨W8.heap.size, 1, none⟩ = some (.int .i64 0) := kept_a2 k140 hb12
  have k167 : W12.cell? ⟨W8.heap.size, 2, none⟩ = some (.int .i64 0) := kept_a2 k141 hb12
  have k168 : W12.cell? ⟨W8.heap.size, 3, none⟩ = some (.int .i64 0) := kept_a2 k142 hb12
  have k169 : W12.cell? ⟨W9.heap.size, 0, none⟩ = some (.int .i64 0) := kept_a2 k143 hb12
  have k170 : W12.cell? ⟨W9.heap.size, 1, none⟩ = some (.int .i64 0) := kept_a2 k144 hb12
  have k171 : W12.cell? ⟨W9.heap.size, 2, none⟩ = some (.int .i64 0) := kept_a2 k145 hb12
  have k172 : W12.cell? ⟨W9.heap.size, 3, none⟩ = some (.int .i64 0) := kept_a2 k146 hb12
  have k173 : W12.cell? ⟨W10.heap.size, 0, none⟩ = some (.int .i64 v1) := kept_a2 k147 hb12
  have k174 : W12.cell? ⟨W10.heap.size, 1, none⟩ = some (.int .i64 v2) := kept_a2 k148 hb12
  have k175 : W12.cell? ⟨W10.heap.size, 2, none⟩ = some (.int .i64 v3) := kept_a2 k149 hb12
  have k176 : W12.cell? ⟨W10.heap.size, 3, none⟩ = some (.int .i64 v4) := kept_a2 k150 hb12
  have k177 : W12.cell? ⟨W11.heap.size, 0, none⟩ = some (.int .i64 lo) := kept1 (by simp [go_sem]) hb12
  have k178 : W12.cell? ⟨W11.heap.size, 1, none⟩ = some (.int .i64 hi) := kept1 (by simp [go_sem]) hb12
  have k179 : W12.cell? ⟨W11.heap.size + 1, 0, none⟩ = some (.int .i64 0) := kept1 (by simp [go_sem]) hb12
  have k180 : W12.cell? ⟨W11.heap.size + 1, 1, none⟩ = some (.int .i64 0) := kept1 (by simp [go_sem]) hb12
  have k181 : W12.cell? ⟨W11.heap.size + 1, 2, none⟩ = some (.int .i64 0) := kept1 (by simp [go_sem]) hb12
  have k182 : W12.cell? ⟨W11.heap.size + 1, 3, none⟩ = some (.int .i64 0) := kept1 (by simp [go_sem]) hb12
  have k183 : W12.cell? ⟨W11.heap.size + 1, 4, none⟩ = some (.int .i64 1) := kept1 (by simp [go_sem]) hb12
  have lk151 : w.heap.size < W12.heap.size := block_lt_of_cell k151
  have lk155 : w.heap.size + 1 < W12.heap.size := block_lt_of_cell k155
  have lk159 : w.heap.size + 1 + 1 < W12.heap.size := block_lt_of_cell k159
  have lk161 : W7.heap.size < W12.heap.size := block_lt_of_cell k161
  have lk165 : W8.heap.size < W12.heap.size := block_lt_of_cell k165
  have lk169 : W9.heap.size < W12.heap.size := block_lt_of_cell k169
  have lk173 : W10.heap.size < W12.heap.size := block_lt_of_cell k173
  have lk177 : W11.heap.size < W12.heap.size := block_lt_of_cell k177
  have lk179 : W11.heap.size + 1 < W12.heap.size := block_lt_of_cell k179
  have hv12 : Below w.heap.size w W12 := bstep2 hv11 hb12
  clear hb12 hv11 k125 k126 k127 k128 k129 k130 k131 k132 k133 k134 k135 k136 k137 k138 k139 k140 k141 k142 k143 k144 k145 k146 k147 k148 k149 k150 lk125 lk129 lk133 lk135 lk139 lk143 lk147
  go_wp2_with fail
  refine (as_yes 0 0 0 0 1 _).mono ?_
  rintro e W13 ⟨rfl, hb13⟩
  have k184 : W13.cell? ⟨w.heap.size, 0, none⟩ = some (.int .i64 a) := kept1 k151 hb13
  have k185 : W13.cell? ⟨w.heap.size, 1, none⟩ = some (.int .i64 b) := kept1 k152 hb13
  have k186 : W13.cell? ⟨w.heap.size, 2, none⟩ = some (.int .i64 c) := kept1 k153 hb13
  have k187 : W13.cell? ⟨w.heap.size, 3, none⟩ = some (.int .i64 d) := kept1 k154 hb13
  have k188 : W13.cell? ⟨w.heap.size + 1, 0, none⟩ = some (.int .i64 p) := kept1 k155 hb13
  have k189 : W13.cell? ⟨w.heap.size + 1, 1, none⟩ = some (.int .i64 q) := kept1 k156 hb13
  have k190 : W13.cell? ⟨w.heap.size + 1, 2, none⟩ = some (.int .i64 r) := kept1 k157 hb13
  have k191 : W13.cell? ⟨w.heap.size + 1, 3, none⟩ = some (.int .i64 s) := kept1 k158 hb13
  have k192 : W13.cell? ⟨w.heap.size + 1 + 1, 0, none⟩ = some (.int .i64 i) := kept1 k159 hb13
  have k193 : W13.cell? ⟨w.heap.size + 1 + 1, 1, none⟩ = some (.int .i64 j) := kept1 k160 hb13
  have k194 : W13.cell? ⟨W7.heap.size, 0, none⟩ = some (.int .i64 0) := kept1 k161 hb13
  have k195 : W13.cell? ⟨W7.heap.size, 1, none⟩ = some (.int .i64 0) := kept1 k162 hb13
  have k196 : W13.cell? ⟨W7.heap.size, 2, none⟩ = some (.int .i64 0) := kept1 k163 hb13
  have k197 : W13.cell? ⟨W7.heap.size, 3, none⟩ = some (.int .i64 0) := kept1 k164 hb13
  have k198 : W13.cell? ⟨W8.heap.size, 0, none⟩ = some (.int .i64 0) := kept1 k165 hb13
  have k199 : W13.cell? ⟨W8.heap.size, 1, none⟩ = some (.int .i64 0) := kept1 k166 hb13
  have k200 : W13.cell? ⟨W8.heap.size, 2, none⟩ = some (.int .i64 0) := kept1 k167 hb13
  have k201 : W13.cell? ⟨W8.heap.size, 3, none⟩ = some (.int .i64 0) := kept1 k168 hb13
  have k202 : W13.cell? ⟨W9.heap.size, 0, none⟩ = some (.int .i64 0) := kept1 k169 hb13
  have k203 : W13.cell? ⟨W9.heap.size, 1, none⟩ = some (.int .i64 0) := kept1 k170 hb13
  have k204 : W13.cell? ⟨W9.heap.size, 2, none⟩ = some (.int .i64 0) := kept1 k171 hb13
  have k205 : W13.cell? ⟨W9.heap.size, 3, none⟩ = some (.int .i64 0) := kept1 k172 hb13
  have k206 : W13.cell? ⟨W10.heap.size, 0, none⟩ = some (.int .i64 v1) := kept1 k173 hb13
  have k207 : W13.cell? ⟨W10.heap.size, 1, none⟩ = some (.int .i64 v2) := kept1 k174 hb13
  have k208 : W13.cell? ⟨W10.heap.size, 2, none⟩ = some (.int .i64 v3) := kept1 k175 hb13
  have k209 : W13.cell? ⟨W10.heap.size, 3, none⟩ = some (.int .i64 v4) := kept1 k176 hb13
  have k210 : W13.cell? ⟨W11.heap.size, 0, none⟩ = some (.int .i64 lo) := kept1 k177 hb13
  have k211 : W13.cell? ⟨W11.heap.size, 1, none⟩ = some (.int .i64 hi) := kept1 k178 hb13
  have k212 : W13.cell? ⟨W11.heap.size + 1, 0, none⟩ = some (.int .i64 0) := kept1 k179 hb13
  have k213 : W13.cell? ⟨W11.heap.size + 1, 1, none⟩ = some (.int .i64 0) := kept1 k180 hb13
  have k214 : W13.cell? ⟨W11.heap.size + 1, 2, none⟩ = some (.int .i64 0) := kept1 k181 hb13
  have k215 : W13.cell? ⟨W11.heap.size + 1, 3, none⟩ = some (.int .i64 0) := kept1 k182 hb13
  have k216 : W13.cell? ⟨W11.heap.size + 1, 4, none⟩ = some (.int .i64 1) := kept1 k183 hb13
  have lk184 : w.heap.size < W13.heap.size := block_lt_of_cell k184
  have lk188 : w.heap.size + 1 < W13.heap.size := block_lt_of_cell k188
  have lk192 : w.heap.size + 1 + 1 < W13.heap.size := block_lt_of_cell k192
  have lk194 : W7.heap.size < W13.heap.size := block_lt_of_cell k194
  have lk198 : W8.heap.size < W13.heap.size := block_lt_of_cell k198
  have lk202 : W9.heap.size < W13.heap.size := block_lt_of_cell k202
  have lk206 : W10.heap.size < W13.heap.size := block_lt_of_cell k206
  have lk210 : W11.heap.size < W13.heap.size := block_lt_of_cell k210
  have lk212 : W11.heap.size + 1 < W13.heap.size := block_lt_of_cell k212
  have hv13 : Below w.heap.size w W13 := bstep0 hv12 hb13
  clear hb13 hv12 k151 k152 k153 k154 k155 k156 k157 k158 k159 k160 k161 k162 k163 k164 k165 k166 k167 k168 k169 k170 k171 k172 k173 k174 k175 k176 k177 k178 k179 k180 k181 k182 k183 lk151 lk155 lk159 lk161 lk165 lk169 lk173 lk177 lk179
  go_wp2_with fail
  refine (as_yes 0 0 0 0 1 _).mono ?_
  rintro e W14 ⟨rfl, hb14⟩
  have k217 : W14.cell? ⟨w.heap.size, 0, none⟩ = some (.int .i64 a) := kept1 k184 hb14
  have k218 : W14.cell? ⟨w.heap.size, 1, none⟩ = some (.int .i64 b) := kept1 k185 hb14
  have k219 : W14.cell? ⟨w.heap.size, 2, none⟩ = some (.int .i64 c) := kept1 k186 hb14
  have k220 : W14.cell? ⟨w.heap.size, 3, none⟩ = some (.int .i64 d) := kept1 k187 hb14
  have k221 : W14.cell? ⟨w.heap.size + 1, 0, none⟩ = some (.int .i64 p) := kept1 k188 hb14
  have k222 : W14.cell? ⟨w.heap.size + 1, 1, none⟩ = some (.int .i64 q) := kept1 k189 hb14
  have k223 : W14.cell? ⟨w.heap.size + 1, 2, none⟩ = some (.int .i64 r) := kept1 k190 hb14
  have k224 : W14.cell? ⟨w.heap.size + 1, 3, none⟩ = some (.int .i64 s) := kept1 k191 hb14
  have k225 : W14.cell? ⟨w.heap.size + 1 + 1, 0, none⟩ = some (.int .i64 i) := kept1 k192 hb14
  have k226 : W14.cell? ⟨w.heap.size + 1 + 1, 1, none⟩ = some (.int .i64 j) := kept1 k193 hb14
  have k227 : W14.cell? ⟨W7.heap.size, 0, none⟩ = some (.int .i64 0) := kept1 k194 hb14
  have k228 : W14.cell? ⟨W7.heap.size, 1, none⟩ = some (.int .i64 0) := kept1 k195 hb14
  have k229 : W14.cell? ⟨W7.heap.size, 2, none⟩ = some (.int .i64 0) := kept1 k196 hb14
  have k230 : W14.cell? ⟨W7.heap.size, 3, none⟩ = some (.int .i64 0) := kept1 k197 hb14
  have k231 : W14.cell? ⟨W8.heap.size, 0, none⟩ = some (.int .i64 0) := kept1 k198 hb14
  have k232 : W14.cell? ⟨W8.heap.size, 1, none⟩ = some (.int .i64 0) := kept1 k199 hb14
  have k233 : W14.cell? ⟨W8.heap.size, 2, none⟩ = some (.int .i64 0) := kept1 k200 hb14
  have k234 : W14.cell? ⟨W8.heap.size, 3, none⟩ = some (.int .i64 0) := kept1 k201 hb14
  have k235 : W14.cell? ⟨W9.heap.size, 0, none⟩ = some (.int .i64 0) := kept1 k202 hb14
  have k236 : W14.cell? ⟨W9.heap.size, 1, none⟩ = some (.int .i64 0) := kept1 k203 hb14
  have k237 : W14.cell? ⟨W9.heap.size, 2, none⟩ = some (.int .i64 0) := kept1 k204 hb14
  have k238 : W14.cell? ⟨W9.heap.size, 3, none⟩ = some (.int .i64 0) := kept1 k205 hb14
  have k239 : W14.cell? ⟨W10.heap.size, 0, none⟩ = some (.int .i64 v1) := kept1 k206 hb14
  have k240 : W14.cell? ⟨W10.heap.size, 1, none⟩ = some (.int .i64 v2) := kept1 k207 hb14
  have k241 : W14.cell? ⟨W10.heap.size, 2, none⟩ = some (.int .i64 v3) := kept1 k208 hb14
  have k242 : W14.cell? ⟨W10.heap.size, 3, none⟩ = some (.int .i64 v4) := kept1 k209 hb14
  have k243 : W14.cell? ⟨W11.heap.size, 0, none⟩ = some (.int .i64 lo) := kept1 k210 hb14
  have k244 : W14.cell? ⟨W11.heap.size, 1, none⟩ = some (.int .i64 hi) := kept1 k211 hb14
  have k245 : W14.cell? ⟨W11.heap.size + 1, 0, none⟩ = some (.int .i64 0) := kept1 k212 hb14
  have k246 : W14.cell? ⟨W11.heap.size + 1, 1, none⟩ = some (.int .i64 0) := kept1 k213 hb14
  have k247 : W14.cell? ⟨W11.heap.size + 1, 2, none⟩ = some (.int .i64 0) := kept1 k214 hb14
  have k248 : W14.cell? ⟨W11.heap.size + 1, 3, none⟩ = some (.int .i64 0) := kept1 k215 hb14
  have k249 : W14.cell? ⟨W11.heap.size + 1, 4, none⟩ = some (.int .i64 1) := kept1 k216 hb14
  have lk217 : w.heap.size < W14.heap.size := block_lt_of_cell k217
  have lk221 : w.heap.size + 1 < W14.heap.size := block_lt_of_cell k221
  have lk225 : w.heap.size + 1 + 1 < W14.heap.size := block_lt_of_cell k225
  have lk227 : W7.heap.size < W14.heap.size := block_lt_of_cell k227
  have lk231 : W8.heap.size < W14.heap.size := block_lt_of_cell k231
  have lk235 : W9.heap.size < W14.heap.size := block_lt_of_cell k235
  have lk239 : W10.heap.size < W14.heap.size := block_lt_of_cell k239
  have lk243 : W11.heap.size < W14.heap.size := block_lt_of_cell k243
  have lk245 : W11.heap.size + 1 < W14.heap.size := block_lt_of_cell k245
  have hv14 : Below w.heap.size w W14 := bstep0 hv13 hb14
  clear hb14 hv13 k184 k185 k186 k187 k188 k189 k190 k191 k192 k193 k194 k195 k196 k197 k198 k199 k200 k201 k202 k203 k204 k205 k206 k207 k208 k209 k210 k211 k212 k213 k214 k215 k216 lk184 lk188 lk192 lk194 lk198 lk202 lk206 lk210 lk212
  clear k221 k222 k223 k224 lk221
  clear k227 k228 k229 k230 lk227
  clear k231 k232 k233 k234 lk231
  clear k235 k236 k237 k238 lk235
  go_upto_region 20 with fail
  have hTX : Hid (Tab W14.drew.heap.size W14.drew) := Lib.hid (Lib.tabBelow_of_tabIs (hT.out.on hv14.drew).here)
  go_cut [146] from 140 to 146 (fun s146 wx => s146 = .bool false ∧ wx.cell? ⟨w.heap.size, 0, none⟩ = some (.int .i64 a) ∧ wx.cell? ⟨w.heap.size, 1, none⟩ = some (.int .i64 b) ∧ wx.cell? ⟨w.heap.size, 2, none⟩ = some (.int .i64 c) ∧ wx.cell? ⟨w.heap.size, 3, none⟩ = some (.int .i64 d) ∧ wx.cell? ⟨w.heap.size + 1 + 1, 0, none⟩ = some (.int .i64 i) ∧ wx.cell? ⟨w.heap.size + 1 + 1, 1, none⟩ = some (.int .i64 j) ∧ wx.cell? ⟨W10.heap.size, 0, none⟩ = some (.int .i64 v1) ∧ wx.cell? ⟨W10.heap.size, 1, none⟩ = some (.int .i64 v2) ∧ wx.cell? ⟨W10.heap.size, 2, none⟩ = some (.int .i64 v3) ∧ wx.cell? ⟨W10.heap.size, 3, none⟩ = some (.int .i64 v4) ∧ wx.cell? ⟨W11.heap.size, 0, none⟩ = some (.int .i64 lo) ∧ wx.cell? ⟨W11.heap.size, 1, none⟩ = some (.int .i64 hi) ∧ wx.cell? ⟨W11.heap.size + 1, 0, none⟩ = some (.int .i64 0) ∧ wx.cell? ⟨W11.heap.size + 1, 1, none⟩ = some (.int .i64 0) ∧ wx.cell? ⟨W11.heap.size + 1, 2, none⟩ = some (.int .i64 0) ∧ wx.cell? ⟨W11.heap.size + 1, 3, none⟩ = some (.int .i64 0) ∧ wx.cell? ⟨W11.heap.size + 1, 4, none⟩ = some (.int .i64 1) ∧ Below w.heap.size w wx)
  case first =>
    have S0 : W14.drew.cell? ⟨w.heap.size, 0, none⟩ = some (.int .i64 a) ∧ W14.drew.cell? ⟨w.heap.size, 1, none⟩ = some (.int .i64 b) ∧ W14.drew.cell? ⟨w.heap.size, 2, none⟩ = some (.int .i64 c) ∧ W14.drew.cell? ⟨w.heap.size, 3, none⟩ = some (.int .i64 d) ∧ W14.drew.cell? ⟨w.heap.size + 1 + 1, 0, none⟩ = some (.int .i64 i) ∧ W14.drew.cell? ⟨w.heap.size + 1 + 1, 1, none⟩ = some (.int .i64 j) ∧ W14.drew.cell? ⟨W10.heap.size, 0, none⟩ = some (.int .i64 v1) ∧ W14.drew.cell? ⟨W10.heap.size, 1, none⟩ = some (.int .i64 v2) ∧ W14.drew.cell? ⟨W10.heap.size, 2, none⟩ = some (.int .i64 v3) ∧ W14.drew.cell? ⟨W10.heap.size, 3, none⟩ = some (.int .i64 v4) ∧ W14.drew.cell? ⟨W11.heap.size, 0, none⟩ = some (.int .i64 lo) ∧ W14.drew.cell? ⟨W11.heap.size, 1, none⟩ = some (.int .i64 hi) ∧ W14.drew.cell? ⟨W11.heap.size + 1, 0, none⟩ = some (.int .i64 0) ∧ W14.drew.cell? ⟨W11.heap.size + 1, 1, none⟩ = some (.int .i64 0) ∧ W14.drew.cell? ⟨W11.heap.size + 1, 2, none⟩ = some (.int .i64 0) ∧ W14.drew.cell? ⟨W11.heap.size + 1, 3, none⟩ = some (.int .i64 0) ∧ W14.drew.cell? ⟨W11.heap.size + 1, 4, none⟩ = some (.int .i64 1) ∧ Below w.heap.size w W14.drew := ⟨by assumption, by assumption, by assumption, by assumption, by assumption, by assumption, by assumption, by assumption, by assumption, by assumption, by assumption, by assumption, by assumption, by assumption, by assumption, by assumption, by assumption, hv14.drew⟩
    go_region_held3 (fun w' => w'.cell? ⟨w.heap.size, 0, none⟩ = some (.int .i64 a) ∧ w'.cell? ⟨w.heap.size, 1, none⟩ = some (.int .i64 b) ∧ w'.cell? ⟨w.heap.size, 2, none⟩ = some (.int .i64 c) ∧ w'.cell? ⟨w.heap.size, 3, none⟩ = some (.int .i64 d) ∧ w'.cell? ⟨w.heap.size + 1 + 1, 0, none⟩ = some (.int .i64 i) ∧ w'.cell? ⟨w.heap.size + 1 + 1, 1, none⟩ = some (.int .i64 j) ∧ w'.cell? ⟨W10.heap.size, 0, none⟩ = some (.int .i64 v1) ∧ w'.cell? ⟨W10.heap.size, 1, none⟩ = some (.int .i64 v2) ∧ w'.cell? ⟨W10.heap.size, 2, none⟩ = some (.int .i64 v3) ∧ w'.cell? ⟨W10.heap.size, 3, none⟩ = some (.int .i64 v4) ∧ w'.cell? ⟨W11.heap.size, 0, none⟩ = some (.int .i64 lo) ∧ w'.cell? ⟨W11.heap.size, 1, none⟩ = some (.int .i64 hi) ∧ w'.cell? ⟨W11.heap.size + 1, 0, none⟩ = some (.int .i64 0) ∧ w'.cell? ⟨W11.heap.size + 1, 1, none⟩ = some (.int .i64 0) ∧ w'.cell? ⟨W11.heap.size + 1, 2, none⟩ = some (.int .i64 0) ∧ w'.cell? ⟨W11.heap.size + 1, 3, none⟩ = some (.int .i64 0) ∧ w'.cell? ⟨W11.heap.size + 1, 4, none⟩ = some (.int .i64 1) ∧ Below w.heap.size w w')
      (first | with_reducible exact S0 | with_reducible exact keep17 (by assumption) hbp | with_reducible exact keep17 (by assumption) (drewN_below _))
      (first
        | (go_at_call 66
           refine (KT.out _).mono ?_
           rintro e wp ⟨he, hbp⟩
           subst he)
        | (go_at_call 62
           refine (as_yes _ _ _ _ _ _).mono ?_
           rintro e wp ⟨he, hbp⟩
           subst he))
    all_goals
      go_split_ands
      try go_split_ands
      go_wp2_with fail
      go_meet
      exact ⟨rfl, by with_reducible assumption, by with_reducible assumption, by with_reducible assumption, by with_reducible assumption, by with_reducible assumption, by with_reducible assumption, by with_reducible assumption, by with_reducible assumption, by with_reducible assumption, by with_reducible assumption, by with_reducible assumption, by with_reducible assumption, by with_reducible assumption, by with_reducible assumption, by with_reducible assumption, by with_reducible assumption, by with_reducible assumption, by with_reducible assumption⟩
  case rest =>
    generalize wc = V15 at hcut ⊢
    clear wc
    obtain ⟨rfl, k250, k251, k252, k253, k254, k255, k256, k257, k258, k259, k260, k261, k262, k263, k264, k265, k266, hv15⟩ := hcut
    clear hv14 k217 k218 k219 k220 k225 k226 k239 k240 k241 k242 k243 k244 k245 k246 k247 k248 k249 lk217 lk225 lk239 lk243 lk245
    have lk250 : w.heap.size < V15.heap.size := block_lt_of_cell k250
    have lk254 : w.heap.size + 1 + 1 < V15.heap.size := block_lt_of_cell k254
    have lk256 : W10.heap.size < V15.heap.size := block_lt_of_cell k256
    have lk260 : W11.heap.size < V15.heap.size := block_lt_of_cell k260
    have lk262 : W11.heap.size + 1 < V15.heap.size := block_lt_of_cell k262
    clear k254 k255 lk254
    clear k256 k257 k258 k259 lk256
    clear k262 k263 k264 k265 k266 lk262
    go_wp2_with fail
    refine (KV.out _).mono ?_
    rintro e W16 ⟨rfl, hb16⟩
    have k267 : W16.cell? ⟨w.heap.size, 0, none⟩ = some (.int .i64 a) := kept1 k250 hb16
    have k268 : W16.cell? ⟨w.heap.size, 1, none⟩ = some (.int .i64 b) := kept1 k251 hb16
    have k269 : W16.cell? ⟨w.heap.size, 2, none⟩ = some (.int .i64 c) := kept1 k252 hb16
    have k270 : W16.cell? ⟨w.heap.size, 3, none⟩ = some (.int .i64 d) := kept1 k253 hb16
    have k271 : W16.cell? ⟨W11.heap.size, 0, none⟩ = some (.int .i64 lo) := kept1 k260 hb16
    have k272 : W16.cell? ⟨W11.heap.size, 1, none⟩ = some (.int .i64 hi) := kept1 k261 hb16
    have lk267 : w.heap.size < W16.heap.size := block_lt_of_cell k267
    have lk271 : W11.heap.size < W16.heap.size := block_lt_of_cell k271
    have hv16 : Below w.heap.size w W16 := bstep0 hv15 hb16
    clear hb16 hv15 k250 k251 k252 k253 k260 k261 lk250 lk260
    go_wp2_with fail
    refine (sanity_tab hT _ (below_alloc hv16 _)).mono ?_
    rintro e W17 ⟨rfl, hb17⟩
    have k273 : W17.cell? ⟨w.heap.size, 0, none⟩ = some (.int .i64 a) := kept_a1 k267 hb17
    have k274 : W17.cell? ⟨w.heap.size, 1, none⟩ = some (.int .i64 b) := kept_a1 k268 hb17
    have k275 : W17.cell? ⟨w.heap.size, 2, none⟩ = some (.int .i64 c) := kept_a1 k269 hb17
    have k276 : W17.cell? ⟨w.heap.size, 3, none⟩ = some (.int .i64 d) := kept_a1 k270 hb17
    have k277 : W17.cell? ⟨W11.heap.size, 0, none⟩ = some (.int .i64 lo) := kept_a1 k271 hb17
    have k278 : W17.cell? ⟨W11.heap.size, 1, none⟩ = some (.int .i64 hi) := kept_a1 k272 hb17
    have k279 : W17.cell? ⟨W16.heap.size, 0, none⟩ = some (.int .i64 lo) := kept1 (by simp [go_sem]) hb17
    have k280 : W17.cell? ⟨W16.heap.size, 1, none⟩ = some (.int .i64 hi) := kept1 (by simp [go_sem]) hb17
    have lk273 : w.heap.size < W17.heap.size := block_lt_of_cell k273
    have lk277 : W11.heap.size < W17.heap.size := block_lt_of_cell k277
    have lk279 : W16.heap.size < W17.heap.size := block_lt_of_cell k279
    have hv17 : Below w.heap.size w W17 := bstep1 hv16 hb17
    clear hb17 hv16 k267 k268 k269 k270 k271 k272 lk267 lk271
    go_wp2
    go_ret
    exact ⟨by first | rfl | simp, (by repeat (first | with_reducible exact Below.refl _ _ | with_reducible assumption | refine below_drewN ?_ _ | refine Below.drew ?_ | refine Below.alloc ?_ (by first | (simp; done) | (simp; omega) | omega) _ | refine Below.setCell ?_ (by first | (simp; done) | (simp; omega) | omega) _ | refine Below.trans ?_ (Below.mono (by assumption) (by first | (simp; done) | (simp; omega) | omega))))⟩

end Go.Proofs.YtffabmojbelaaaaDoor
