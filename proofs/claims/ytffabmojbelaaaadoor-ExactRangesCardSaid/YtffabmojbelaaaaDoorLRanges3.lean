/- The law ExactRanges, a case. -/
import Derived.Test.YtffabmojbelaaaaDoorLRanges0
namespace Go.Proofs.YtffabmojbelaaaaDoor
open Go.RowKit Go.Shelf

set_option maxRecDepth 100000 in
set_option maxHeartbeats 8000000 in
theorem ranges_TTFF (a b c d p q r s i j m1 m2 m3 m4 u1 u2 u3 u4 s1 s2 s3 s4 me se lo hi : Int) (KX : Hid (∀ W : World, Calls Tryd.prog 50 #[.agg #[.int .i64 a, .int .i64 b, .int .i64 c, .int .i64 d]] W fun e w' => e = .returned (.bool true) ∧ Below W.heap.size W w')) (KY : Hid (∀ W : World, Calls Tryd.prog 50 #[.agg #[.int .i64 p, .int .i64 q, .int .i64 r, .int .i64 s]] W fun e w' => e = .returned (.bool true) ∧ Below W.heap.size W w')) (KA : Hid (∀ W : World, Calls Tryd.prog 22 #[.agg #[.int .i64 i, .int .i64 j]] W fun e w' => e = .returned (.bool false) ∧ Below W.heap.size W w')) (EX : Hid (∀ W : World, Calls Tryd.prog 54 #[.agg #[.int .i64 a, .int .i64 b, .int .i64 c, .int .i64 d]] W fun e w' => e = .returned (.bool true) ∧ Below W.heap.size W w')) (EH : Hid (∀ W : World, Calls Tryd.prog 55 #[.agg #[.int .i64 a, .int .i64 b, .int .i64 c, .int .i64 d], .agg #[.int .i64 i, .int .i64 j]] W fun e w' => e = .returned (.bool false) ∧ Below W.heap.size W w')) (EM : Hid (∀ W : World, Calls Tryd.prog 57 #[.agg #[.int .i64 a, .int .i64 b, .int .i64 c, .int .i64 d], .agg #[.int .i64 p, .int .i64 q, .int .i64 r, .int .i64 s]] W fun e' w' => e' = .returned (.tuple #[.agg #[.int .i64 m1, .int .i64 m2, .int .i64 m3, .int .i64 m4], .int .i64 me]) ∧ Below W.heap.size W w')) (EU : Hid (∀ W : World, Calls Tryd.prog 58 #[.agg #[.int .i64 a, .int .i64 b, .int .i64 c, .int .i64 d], .agg #[.int .i64 p, .int .i64 q, .int .i64 r, .int .i64 s]] W fun e w' => e = .returned (.tuple #[.agg #[.int .i64 u1, .int .i64 u2, .int .i64 u3, .int .i64 u4], .int .i64 0]) ∧ Below W.heap.size W w')) (ES : Hid (∀ W : World, Calls Tryd.prog 59 #[.agg #[.int .i64 a, .int .i64 b, .int .i64 c, .int .i64 d], .agg #[.int .i64 p, .int .i64 q, .int .i64 r, .int .i64 s]] W fun e w' => e = .returned (.tuple #[.agg #[.int .i64 s1, .int .i64 s2, .int .i64 s3, .int .i64 s4], .int .i64 se]) ∧ Below W.heap.size W w')) (ET : Hid (∀ W : World, Calls Tryd.prog 60 #[.agg #[.int .i64 a, .int .i64 b, .int .i64 c, .int .i64 d], .agg #[.int .i64 i, .int .i64 j]] W fun e w' => e = .returned (.tuple #[.agg #[.int .i64 0, .int .i64 0, .int .i64 0, .int .i64 0], .int .i64 1]) ∧ Below W.heap.size W w')) (EV : Hid (∀ W : World, Calls Tryd.prog 61 #[.agg #[.int .i64 a, .int .i64 b, .int .i64 c, .int .i64 d]] W fun e w' => e = .returned (.tuple #[.agg #[.int .i64 0, .int .i64 0], .int .i64 5]) ∧ Below W.heap.size W w')) (KM : Hid (∀ W : World, Calls Tryd.prog 63 #[.agg #[.int .i64 a, .int .i64 b, .int .i64 c, .int .i64 d], .agg #[.int .i64 p, .int .i64 q, .int .i64 r, .int .i64 s]] W fun e w' => e = .returned (.agg #[.int .i64 m1, .int .i64 m2, .int .i64 m3, .int .i64 m4, .int .i64 me]) ∧ Below W.heap.size W w')) (KU : Hid (∀ W : World, Calls Tryd.prog 64 #[.agg #[.int .i64 a, .int .i64 b, .int .i64 c, .int .i64 d], .agg #[.int .i64 p, .int .i64 q, .int .i64 r, .int .i64 s]] W fun e w' => e = .returned (.agg #[.int .i64 u1, .int .i64 u2, .int .i64 u3, .int .i64 u4]) ∧ Below W.heap.size W w')) (KS : Hid (∀ W : World, Calls Tryd.prog 65 #[.agg #[.int .i64 a, .int .i64 b, .int .i64 c, .int .i64 d], .agg #[.int .i64 p, .int .i64 q, .int .i64 r, .int .i64 s]] W fun e w' => e = .returned (.agg #[.int .i64 s1, .int .i64 s2, .int .i64 s3, .int .i64 s4, .int .i64 se]) ∧ Below W.heap.size W w')) (KV : Hid (∀ W : World, Calls Tryd.prog 67 #[.agg #[.int .i64 a, .int .i64 b, .int .i64 c, .int .i64 d]] W fun e w' => e = .returned (.tuple #[.agg #[.int .i64 lo, .int .i64 hi], .bool false]) ∧ Below W.heap.size W w')) (w : World) (hT : Hid (Tab w.heap.size w)) :
    Calls Tryd.prog 9 #[.agg #[.int .i64 a, .int .i64 b, .int .i64 c, .int .i64 d], .agg #[.int .i64 p, .int .i64 q, .int .i64 r, .int .i64 s], .agg #[.int .i64 i, .int .i64 j]] w fun e w' => e = .returned (.bool true) ∧ Below w.heap.size w w' := by
  go_enter Tryd.func9, Tryd.ntmps9
  go_wp2_with fail
  refine (KX.out _).mono ?_
  rintro e W1 ⟨rfl, hb1⟩
  have k1 : W1.cell? ⟨w.heap.size, 0, none⟩ = some (.int .i64 a) := kept1 (by simp [go_sem]) hb1
  have k2 : W1.cell? ⟨w.heap.size, 1, none⟩ = some (.int .i64 b) := kept1 (by simp [go_sem]) hb1
  have k3 : W1.cell? ⟨w.heap.size, 2, none⟩ = some (.int .i64 c) := kept1 (by simp [go_sem]) hb1
  have k4 : W1.cell? ⟨w.heap.size, 3, none⟩ = some (.int .i64 d) := kept1 (by simp [go_sem]) hb1
  have k5 : W1.cell? ⟨w.heap.size + 1, 0, none⟩ = some (.int .i64 p) := kept1 (by simp [go_sem]) hb1
  have k6 : W1.cell? ⟨w.heap.size + 1, 1, none⟩ = some (.int .i64 q) := kept1 (by simp [go_sem]) hb1
  have k7 : W1.cell? ⟨w.heap.size + 1, 2, none⟩ = some (.int .i64 r) := kept1 (by simp [go_sem]) hb1
  have k8 : W1.cell? ⟨w.heap.size + 1, 3, none⟩ = some (.int .i64 s) := kept1 (by simp [go_sem]) hb1
  have k9 : W1.cell? ⟨w.heap.size + 1 + 1, 0, none⟩ = some (.int .i64 i) := kept1 (by simp [go_sem]) hb1
  have k10 : W1.cell? ⟨w.heap.size + 1 + 1, 1, none⟩ = some (.int .i64 j) := kept1 (by simp [go_sem]) hb1
  have lk1 : w.heap.size < W1.heap.size := block_lt_of_cell k1
  have lk5 : w.heap.size + 1 < W1.heap.size := block_lt_of_cell k5
  have lk9 : w.heap.size + 1 + 1 < W1.heap.size := block_lt_of_cell k9
  have hv1 : Below w.heap.size w W1 := bstep3 (Below.refl _ _) hb1
  clear hb1  
  go_wp2_with fail
  refine (KY.out _).mono ?_
  rintro e W2 ⟨rfl, hb2⟩
  have k11 : W2.cell? ⟨w.heap.size, 0, none⟩ = some (.int .i64 a) := kept1 k1 hb2
  have k12 : W2.cell? ⟨w.heap.size, 1, none⟩ = some (.int .i64 b) := kept1 k2 hb2
  have k13 : W2.cell? ⟨w.heap.size, 2, none⟩ = some (.int .i64 c) := kept1 k3 hb2
  have k14 : W2.cell? ⟨w.heap.size, 3, none⟩ = some (.int .i64 d) := kept1 k4 hb2
  have k15 : W2.cell? ⟨w.heap.size + 1, 0, none⟩ = some (.int .i64 p) := kept1 k5 hb2
  have k16 : W2.cell? ⟨w.heap.size + 1, 1, none⟩ = some (.int .i64 q) := kept1 k6 hb2
  have k17 : W2.cell? ⟨w.heap.size + 1, 2, none⟩ = some (.int .i64 r) := kept1 k7 hb2
  have k18 : W2.cell? ⟨w.heap.size + 1, 3, none⟩ = some (.int .i64 s) := kept1 k8 hb2
  have k19 : W2.cell? ⟨w.heap.size + 1 + 1, 0, none⟩ = some (.int .i64 i) := kept1 k9 hb2
  have k20 : W2.cell? ⟨w.heap.size + 1 + 1, 1, none⟩ = some (.int .i64 j) := kept1 k10 hb2
  have lk11 : w.heap.size < W2.heap.size := block_lt_of_cell k11
  have lk15 : w.heap.size + 1 < W2.heap.size := block_lt_of_cell k15
  have lk19 : w.heap.size + 1 + 1 < W2.heap.size := block_lt_of_cell k19
  have hv2 : Below w.heap.size w W2 := bstep0 hv1 hb2
  clear hb2 hv1 k1 k2 k3 k4 k5 k6 k7 k8 k9 k10 lk1 lk5 lk9
  go_wp2_with fail
  refine (KA.out _).mono ?_
  rintro e W3 ⟨rfl, hb3⟩
  have k21 : W3.cell? ⟨w.heap.size, 0, none⟩ = some (.int .i64 a) := kept1 k11 hb3
  have k22 : W3.cell? ⟨w.heap.size, 1, none⟩ = some (.int .i64 b) := kept1 k12 hb3
  have k23 : W3.cell? ⟨w.heap.size, 2, none⟩ = some (.int .i64 c) := kept1 k13 hb3
  have k24 : W3.cell? ⟨w.heap.size, 3, none⟩ = some (.int .i64 d) := kept1 k14 hb3
  have k25 : W3.cell? ⟨w.heap.size + 1, 0, none⟩ = some (.int .i64 p) := kept1 k15 hb3
  have k26 : W3.cell? ⟨w.heap.size + 1, 1, none⟩ = some (.int .i64 q) := kept1 k16 hb3
  have k27 : W3.cell? ⟨w.heap.size + 1, 2, none⟩ = some (.int .i64 r) := kept1 k17 hb3
  have k28 : W3.cell? ⟨w.heap.size + 1, 3, none⟩ = some (.int .i64 s) := kept1 k18 hb3
  have k29 : W3.cell? ⟨w.heap.size + 1 + 1, 0, none⟩ = some (.int .i64 i) := kept1 k19 hb3
  have k30 : W3.cell? ⟨w.heap.size + 1 + 1, 1, none⟩ = some (.int .i64 j) := kept1 k20 hb3
  have lk21 : w.heap.size < W3.heap.size := block_lt_of_cell k21
  have lk25 : w.heap.size + 1 < W3.heap.size := block_lt_of_cell k25
  have lk29 : w.heap.size + 1 + 1 < W3.heap.size := block_lt_of_cell k29
  have hv3 : Below w.heap.size w W3 := bstep0 hv2 hb3
  clear hb3 hv2 k11 k12 k13 k14 k15 k16 k17 k18 k19 k20 lk11 lk15 lk19
  go_wp2_with fail
  refine (EX.out _).mono ?_
  rintro e W4 ⟨rfl, hb4⟩
  have k31 : W4.cell? ⟨w.heap.size, 0, none⟩ = some (.int .i64 a) := kept1 k21 hb4
  have k32 : W4.cell? ⟨w.heap.size, 1, none⟩ = some (.int .i64 b) := kept1 k22 hb4
  have k33 : W4.cell? ⟨w.heap.size, 2, none⟩ = some (.int .i64 c) := kept1 k23 hb4
  have k34 : W4.cell? ⟨w.heap.size, 3, none⟩ = some (.int .i64 d) := kept1 k24 hb4
  have k35 : W4.cell? ⟨w.heap.size + 1, 0, none⟩ = some (.int .i64 p) := kept1 k25 hb4
  have k36 : W4.cell? ⟨w.heap.size + 1, 1, none⟩ = some (.int .i64 q) := kept1 k26 hb4
  have k37 : W4.cell? ⟨w.heap.size + 1, 2, none⟩ = some (.int .i64 r) := kept1 k27 hb4
  have k38 : W4.cell? ⟨w.heap.size + 1, 3, none⟩ = some (.int .i64 s) := kept1 k28 hb4
  have k39 : W4.cell? ⟨w.heap.size + 1 + 1, 0, none⟩ = some (.int .i64 i) := kept1 k29 hb4
  have k40 : W4.cell? ⟨w.heap.size + 1 + 1, 1, none⟩ = some (.int .i64 j) := kept1 k30 hb4
  have lk31 : w.heap.size < W4.heap.size := block_lt_of_cell k31
  have lk35 : w.heap.size + 1 < W4.heap.size := block_lt_of_cell k35
  have lk39 : w.heap.size + 1 + 1 < W4.heap.size := block_lt_of_cell k39
  have hv4 : Below w.heap.size w W4 := bstep0 hv3 hb4
  clear hb4 hv3 k21 k22 k23 k24 k25 k26 k27 k28 k29 k30 lk21 lk25 lk29
  go_wp2_with fail
  refine (EH.out _).mono ?_
  rintro e W5 ⟨rfl, hb5⟩
  have k41 : W5.cell? ⟨w.heap.size, 0, none⟩ = some (.int .i64 a) := kept1 k31 hb5
  have k42 : W5.cell? ⟨w.heap.size, 1, none⟩ = some (.int .i64 b) := kept1 k32 hb5
  have k43 : W5.cell? ⟨w.heap.size, 2, none⟩ = some (.int .i64 c) := kept1 k33 hb5
  have k44 : W5.cell? ⟨w.heap.size, 3, none⟩ = some (.int .i64 d) := kept1 k34 hb5
  have k45 : W5.cell? ⟨w.heap.size + 1, 0, none⟩ = some (.int .i64 p) := kept1 k35 hb5
  have k46 : W5.cell? ⟨w.heap.size + 1, 1, none⟩ = some (.int .i64 q) := kept1 k36 hb5
  have k47 : W5.cell? ⟨w.heap.size + 1, 2, none⟩ = some (.int .i64 r) := kept1 k37 hb5
  have k48 : W5.cell? ⟨w.heap.size + 1, 3, none⟩ = some (.int .i64 s) := kept1 k38 hb5
  have k49 : W5.cell? ⟨w.heap.size + 1 + 1, 0, none⟩ = some (.int .i64 i) := kept1 k39 hb5
  have k50 : W5.cell? ⟨w.heap.size + 1 + 1, 1, none⟩ = some (.int .i64 j) := kept1 k40 hb5
  have lk41 : w.heap.size < W5.heap.size := block_lt_of_cell k41
  have lk45 : w.heap.size + 1 < W5.heap.size := block_lt_of_cell k45
  have lk49 : w.heap.size + 1 + 1 < W5.heap.size := block_lt_of_cell k49
  have hv5 : Below w.heap.size w W5 := bstep0 hv4 hb5
  clear hb5 hv4 k31 k32 k33 k34 k35 k36 k37 k38 k39 k40 lk31 lk35 lk39
  go_wp2_with fail
  refine (EM.out _).mono ?_
  rintro e W6 ⟨rfl, hb6⟩
  have k51 : W6.cell? ⟨w.heap.size, 0, none⟩ = some (.int .i64 a) := kept1 k41 hb6
  have k52 : W6.cell? ⟨w.heap.size, 1, none⟩ = some (.int .i64 b) := kept1 k42 hb6
  have k53 : W6.cell? ⟨w.heap.size, 2, none⟩ = some (.int .i64 c) := kept1 k43 hb6
  have k54 : W6.cell? ⟨w.heap.size, 3, none⟩ = some (.int .i64 d) := kept1 k44 hb6
  have k55 : W6.cell? ⟨w.heap.size + 1, 0, none⟩ = some (.int .i64 p) := kept1 k45 hb6
  have k56 : W6.cell? ⟨w.heap.size + 1, 1, none⟩ = some (.int .i64 q) := kept1 k46 hb6
  have k57 : W6.cell? ⟨w.heap.size + 1, 2, none⟩ = some (.int .i64 r) := kept1 k47 hb6
  have k58 : W6.cell? ⟨w.heap.size + 1, 3, none⟩ = some (.int .i64 s) := kept1 k48 hb6
  have k59 : W6.cell? ⟨w.heap.size + 1 + 1, 0, none⟩ = some (.int .i64 i) := kept1 k49 hb6
  have k60 : W6.cell? ⟨w.heap.size + 1 + 1, 1, none⟩ = some (.int .i64 j) := kept1 k50 hb6
  have lk51 : w.heap.size < W6.heap.size := block_lt_of_cell k51
  have lk55 : w.heap.size + 1 < W6.heap.size := block_lt_of_cell k55
  have lk59 : w.heap.size + 1 + 1 < W6.heap.size := block_lt_of_cell k59
  have hv6 : Below w.heap.size w W6 := bstep0 hv5 hb6
  clear hb6 hv5 k41 k42 k43 k44 k45 k46 k47 k48 k49 k50 lk41 lk45 lk49
  go_wp2_with fail
  refine (EU.out _).mono ?_
  rintro e W7 ⟨rfl, hb7⟩
  have k61 : W7.cell? ⟨w.heap.size, 0, none⟩ = some (.int .i64 a) := kept_a1 k51 hb7
  have k62 : W7.cell? ⟨w.heap.size, 1, none⟩ = some (.int .i64 b) := kept_a1 k52 hb7
  have k63 : W7.cell? ⟨w.heap.size, 2, none⟩ = some (.int .i64 c) := kept_a1 k53 hb7
  have k64 : W7.cell? ⟨w.heap.size, 3, none⟩ = some (.int .i64 d) := kept_a1 k54 hb7
  have k65 : W7.cell? ⟨w.heap.size + 1, 0, none⟩ = some (.int .i64 p) := kept_a1 k55 hb7
  have k66 : W7.cell? ⟨w.heap.size + 1, 1, none⟩ = some (.int .i64 q) := kept_a1 k56 hb7
  have k67 : W7.cell? ⟨w.heap.size + 1, 2, none⟩ = some (.int .i64 r) := kept_a1 k57 hb7
  have k68 : W7.cell? ⟨w.heap.size + 1, 3, none⟩ = some (.int .i64 s) := kept_a1 k58 hb7
  have k69 : W7.cell? ⟨w.heap.size + 1 + 1, 0, none⟩ = some (.int .i64 i) := kept_a1 k59 hb7
  have k70 : W7.cell? ⟨w.heap.size + 1 + 1, 1, none⟩ = some (.int .i64 j) := kept_a1 k60 hb7
  have k71 : W7.cell? ⟨W6.heap.size, 0, none⟩ = some (.int .i64 m1) := kept1 (by simp [go_sem]) hb7
  have k72 : W7.cell? ⟨W6.heap.size, 1, none⟩ = some (.int .i64 m2) := kept1 (by simp [go_sem]) hb7
  have k73 : W7.cell? ⟨W6.heap.size, 2, none⟩ = some (.int .i64 m3) := kept1 (by simp [go_sem]) hb7
  have k74 : W7.cell? ⟨W6.heap.size, 3, none⟩ = some (.int .i64 m4) := kept1 (by simp [go_sem]) hb7
  have lk61 : w.heap.size < W7.heap.size := block_lt_of_cell k61
  have lk65 : w.heap.size + 1 < W7.heap.size := block_lt_of_cell k65
  have lk69 : w.heap.size + 1 + 1 < W7.heap.size := block_lt_of_cell k69
  have lk71 : W6.heap.size < W7.heap.size := block_lt_of_cell k71
  have hv7 : Below w.heap.size w W7 := bstep1 hv6 hb7
  clear hb7 hv6 k51 k52 k53 k54 k55 k56 k57 k58 k59 k60 lk51 lk55 lk59
  go_wp2_with fail
  refine (ES.out _).mono ?_
  rintro e W8 ⟨rfl, hb8⟩
  have k75 : W8.cell? ⟨w.heap.size, 0, none⟩ = some (.int .i64 a) := kept_a1 k61 hb8
  have k76 : W8.cell? ⟨w.heap.size, 1, none⟩ = some (.int .i64 b) := kept_a1 k62 hb8
  have k77 : W8.cell? ⟨w.heap.size, 2, none⟩ = some (.int .i64 c) := kept_a1 k63 hb8
  have k78 : W8.cell? ⟨w.heap.size, 3, none⟩ = some (.int .i64 d) := kept_a1 k64 hb8
  have k79 : W8.cell? ⟨w.heap.size + 1, 0, none⟩ = some (.int .i64 p) := kept_a1 k65 hb8
  have k80 : W8.cell? ⟨w.heap.size + 1, 1, none⟩ = some (.int .i64 q) := kept_a1 k66 hb8
  have k81 : W8.cell? ⟨w.heap.size + 1, 2, none⟩ = some (.int .i64 r) := kept_a1 k67 hb8
  have k82 : W8.cell? ⟨w.heap.size + 1, 3, none⟩ = some (.int .i64 s) := kept_a1 k68 hb8
  have k83 : W8.cell? ⟨w.heap.size + 1 + 1, 0, none⟩ = some (.int .i64 i) := kept_a1 k69 hb8
  have k84 : W8.cell? ⟨w.heap.size + 1 + 1, 1, none⟩ = some (.int .i64 j) := kept_a1 k70 hb8
  have k85 : W8.cell? ⟨W6.heap.size, 0, none⟩ = some (.int .i64 m1) := kept_a1 k71 hb8
  have k86 : W8.cell? ⟨W6.heap.size, 1, none⟩ = some (.int .i64 m2) := kept_a1 k72 hb8
  have k87 : W8.cell? ⟨W6.heap.size, 2, none⟩ = some (.int .i64 m3) := kept_a1 k73 hb8
  have k88 : W8.cell? ⟨W6.heap.size, 3, none⟩ = some (.int .i64 m4) := kept_a1 k74 hb8
  have k89 : W8.cell? ⟨W7.heap.size, 0, none⟩ = some (.int .i64 u1) := kept1 (by simp [go_sem]) hb8
  have k90 : W8.cell? ⟨W7.heap.size, 1, none⟩ = some (.int .i64 u2) := kept1 (by simp [go_sem]) hb8
  have k91 : W8.cell? ⟨W7.heap.size, 2, none⟩ = some (.int .i64 u3) := kept1 (by simp [go_sem]) hb8
  have k92 : W8.cell? ⟨W7.heap.size, 3, none⟩ = some (.int .i64 u4) := kept1 (by simp [go_sem]) hb8
  have lk75 : w.heap.size < W8.heap.size := block_lt_of_cell k75
  have lk79 : w.heap.size + 1 < W8.heap.size := block_lt_of_cell k79
  have lk83 : w.heap.size + 1 + 1 < W8.heap.size := block_lt_of_cell k83
  have lk85 : W6.heap.size < W8.heap.size := block_lt_of_cell k85
  have lk89 : W7.heap.size < W8.heap.size := block_lt_of_cell k89
  have hv8 : Below w.heap.size w W8 := bstep1 hv7 hb8
  clear hb8 hv7 k61 k62 k63 k64 k65 k66 k67 k68 k69 k70 k71 k72 k73 k74 lk61 lk65 lk69 lk71
  go_wp2_with fail
  refine (ET.out _).mono ?_
  rintro e W9 ⟨rfl, hb9⟩
  have k93 : W9.cell? ⟨w.heap.size, 0, none⟩ = some (.int .i64 a) := kept_a1 k75 hb9
  have k94 : W9.cell? ⟨w.heap.size, 1, none⟩ = some (.int .i64 b) := kept_a1 k76 hb9
  have k95 : W9.cell? ⟨w.heap.size, 2, none⟩ = some (.int .i64 c) := kept_a1 k77 hb9
  have k96 : W9.cell? ⟨w.heap.size, 3, none⟩ = some (.int .i64 d) := kept_a1 k78 hb9
  have k97 : W9.cell? ⟨w.heap.size + 1, 0, none⟩ = some (.int .i64 p) := kept_a1 k79 hb9
  have k98 : W9.cell? ⟨w.heap.size + 1, 1, none⟩ = some (.int .i64 q) := kept_a1 k80 hb9
  have k99 : W9.cell? ⟨w.heap.size + 1, 2, none⟩ = some (.int .i64 r) := kept_a1 k81 hb9
  have k100 : W9.cell? ⟨w.heap.size + 1, 3, none⟩ = some (.int .i64 s) := kept_a1 k82 hb9
  have k101 : W9.cell? ⟨w.heap.size + 1 + 1, 0, none⟩ = some (.int .i64 i) := kept_a1 k83 hb9
  have k102 : W9.cell? ⟨w.heap.size + 1 + 1, 1, none⟩ = some (.int .i64 j) := kept_a1 k84 hb9
  have k103 : W9.cell? ⟨W6.heap.size, 0, none⟩ = some (.int .i64 m1) := kept_a1 k85 hb9
  have k104 : W9.cell? ⟨W6.heap.size, 1, none⟩ = some (.int .i64 m2) := kept_a1 k86 hb9
  have k105 : W9.cell? ⟨W6.heap.size, 2, none⟩ = some (.int .i64 m3) := kept_a1 k87 hb9
  have k106 : W9.cell? ⟨W6.heap.size, 3, none⟩ = some (.int .i64 m4) := kept_a1 k88 hb9
  have k107 : W9.cell? ⟨W7.heap.size, 0, none⟩ = some (.int .i64 u1) := kept_a1 k89 hb9
  have k108 : W9.cell? ⟨W7.heap.size, 1, none⟩ = some (.int .i64 u2) := kept_a1 k90 hb9
  have k109 : W9.cell? ⟨W7.heap.size, 2, none⟩ = some (.int .i64 u3) := kept_a1 k91 hb9
  have k110 : W9.cell? ⟨W7.heap.size, 3, none⟩ = some (.int .i64 u4) := kept_a1 k92 hb9
  have k111 : W9.cell? ⟨W8.heap.size, 0, none⟩ = some (.int .i64 s1) := kept1 (by simp [go_sem]) hb9
  have k112 : W9.cell? ⟨W8.heap.size, 1, none⟩ = some (.int .i64 s2) := kept1 (by simp [go_sem]) hb9
  have k113 : W9.cell? ⟨W8.heap.size, 2, none⟩ = some (.int .i64 s3) := kept1 (by simp [go_sem]) hb9
  have k114 : W9.cell? ⟨W8.heap.size, 3, none⟩ = some (.int .i64 s4) := kept1 (by simp [go_sem]) hb9
  have lk93 : w.heap.size < W9.heap.size := block_lt_of_cell k93
  have lk97 : w.heap.size + 1 < W9.heap.size := block_lt_of_cell k97
  have lk101 : w.heap.size + 1 + 1 < W9.heap.size := block_lt_of_cell k101
  have lk103 : W6.heap.size < W9.heap.size := block_lt_of_cell k103
  have lk107 : W7.heap.size < W9.heap.size := block_lt_of_cell k107
  have lk111 : W8.heap.size < W9.heap.size := block_lt_of_cell k111
  have hv9 : Below w.heap.size w W9 := bstep1 hv8 hb9
  clear hb9 hv8 k75 k76 k77 k78 k79 k80 k81 k82 k83 k84 k85 k86 k87 k88 k89 k90 k91 k92 lk75 lk79 lk83 lk85 lk89
  go_wp2_with fail
  refine (EV.out _).mono ?_
  rintro e W10 ⟨rfl, hb10⟩
  have k115 : W10.cell? ⟨w.heap.size, 0, none⟩ = some (.int .i64 a) := kept_a1 k93 hb10
  have k116 : W10.cell? ⟨w.heap.size, 1, none⟩ = some (.int .i64 b) := kept_a1 k94 hb10
  have k117 : W10.cell? ⟨w.heap.size, 2, none⟩ = some (.int .i64 c) := kept_a1 k95 hb10
  have k118 : W10.cell? ⟨w.heap.size, 3, none⟩ = some (.int .i64 d) := kept_a1 k96 hb10
  have k119 : W10.cell? ⟨w.heap.size + 1, 0, none⟩ = some (.int .i64 p) := kept_a1 k97 hb10
  have k120 : W10.cell? ⟨w.heap.size + 1, 1, none⟩ = some (.int .i64 q) := kept_a1 k98 hb10
  have k121 : W10.cell? ⟨w.heap.size + 1, 2, none⟩ = some (.int .i64 r) := kept_a1 k99 hb10
  have k122 : W10.cell? ⟨w.heap.size + 1, 3, none⟩ = some (.int .i64 s) := kept_a1 k100 hb10
  have k123 : W10.cell? ⟨w.heap.size + 1 + 1, 0, none⟩ = some (.int .i64 i) := kept_a1 k101 hb10
  have k124 : W10.cell? ⟨w.heap.size + 1 + 1, 1, none⟩ = some (.int .i64 j) := kept_a1 k102 hb10
  have k125 : W10.cell? ⟨W6.heap.size, 0, none⟩ = some (.int .i64 m1) := kept_a1 k103 hb10
  have k126 : W10.cell? ⟨W6.heap.size, 1, none⟩ = some (.int .i64 m2) := kept_a1 k104 hb10
  have k127 : W10.cell? ⟨W6.heap.size, 2, none⟩ = some (.int .i64 m3) := kept_a1 k105 hb10
  have k128 : W10.cell? ⟨W6.heap.size, 3, none⟩ = some (.int .i64 m4) := kept_a1 k106 hb10
  have k129 : W10.cell? ⟨W7.heap.size, 0, none⟩ = some (.int .i64 u1) := kept_a1 k107 hb10
  have k130 : W10.cell? ⟨W7.heap.size, 1, none⟩ = some (.int .i64 u2) := kept_a1 k108 hb10
  have k131 : W10.cell? ⟨W7.heap.size, 2, none⟩ = some (.int .i64 u3) := kept_a1 k109 hb10
  have k132 : W10.cell? ⟨W7.heap.size, 3, none⟩ = some (.int .i64 u4) := kept_a1 k110 hb10
  have k133 : W10.cell? ⟨W8.heap.size, 0, none⟩ = some (.int .i64 s1) := kept_a1 k111 hb10
  have k134 : W10.cell? ⟨W8.heap.size, 1, none⟩ = some (.int .i64 s2) := kept_a1 k112 hb10
  have k135 : W10.cell? ⟨W8.heap.size, 2, none⟩ = some (.int .i64 s3) := kept_a1 k113 hb10
  have k136 : W10.cell? ⟨W8.heap.size, 3, none⟩ = some (.int .i64 s4) := kept_a1 k114 hb10
  have k137 : W10.cell? ⟨W9.heap.size, 0, none⟩ = some (.int .i64 0) := kept1 (by simp [go_sem]) hb10
  have k138 : W10.cell? ⟨W9.heap.size, 1, none⟩ = some (.int .i64 0) := kept1 (by simp [go_sem]) hb10
  have k139 : W10.cell? ⟨W9.heap.size, 2, none⟩ = some (.int .i64 0) := kept1 (by simp [go_sem]) hb10
  have k140 : W10.cell? ⟨W9.heap.size, 3, none⟩ = some (.int .i64 0) := kept1 (by simp [go_sem]) hb10
  have lk115 : w.heap.size < W10.heap.size := block_lt_of_cell k115
  have lk119 : w.heap.size + 1 < W10.heap.size := block_lt_of_cell k119
  have lk123 : w.heap.size + 1 + 1 < W10.heap.size := block_lt_of_cell k123
  have lk125 : W6.heap.size < W10.heap.size := block_lt_of_cell k125
  have lk129 : W7.heap.size < W10.heap.size := block_lt_of_cell k129
  have lk133 : W8.heap.size < W10.heap.size := block_lt_of_cell k133
  have lk137 : W9.heap.size < W10.heap.size := block_lt_of_cell k137
  have hv10 : Below w.heap.size w W10 := bstep1 hv9 hb10
  clear hb10 hv9 k93 k94 k95 k96 k97 k98 k99 k100 k101 k102 k103 k104 k105 k106 k107 k108 k109 k110 k111 k112 k113 k114 lk93 lk97 lk101 lk103 lk107 lk111
  go_upto_region 15 with fail
  have k141 : ((W10.alloc (Obj.cells #[.int .i64 0, .int .i64 0] 44)).alloc (Obj.cells #[.int .i64 0, .int .i64 0, .int .i64 0, .int .i64 0, .int .i64 1] 70)).cell? ⟨w.heap.size, 0, none⟩ = some (.int .i64 a) := (cell_alloc (cell_alloc k115 _) _)
  have k142 : ((W10.alloc (Obj.cells #[.int .i64 0, .int .i64 0] 44)).alloc (Obj.cells #[.int .i64 0, .int .i64 0, .int .i64 0, .int .i64 0, .int .i64 1] 70)).cell? ⟨w.heap.size, 1, none⟩ = some (.int .i64 b) := (cell_alloc (cell_alloc k116 _) _)
  have k143 : ((W10.alloc (Obj.cells #[.int .i64 0, .int .i64 0] 44)).alloc (Obj.cells #[.int .i64 0, .int .i64 0, .int .i64 0, .int .i64 0, .int .i64 1] 70)).cell? ⟨w.heap.size, 2, none⟩ = some (.int .i64 c) := (cell_alloc (cell_alloc k117 _) _)
  have k144 : ((W10.alloc (Obj.cells #[.int .i64 0, .int .i64 0] 44)).alloc (Obj.cells #[.int .i64 0, .int .i64 0, .int .i64 0, .int .i64 0, .int .i64 1] 70)).cell? ⟨w.heap.size, 3, none⟩ = some (.int .i64 d) := (cell_alloc (cell_alloc k118 _) _)
  have k145 : ((W10.alloc (Obj.cells #[.int .i64 0, .int .i64 0] 44)).alloc (Obj.cells #[.int .i64 0, .int .i64 0, .int .i64 0, .int .i64 0, .int .i64 1] 70)).cell? ⟨w.heap.size + 1, 0, none⟩ = some (.int .i64 p) := (cell_alloc (cell_alloc k119 _) _)
  have k146 : ((W10.alloc (Obj.cells #[.int .i64 0, .int .i64 0] 44)).alloc (Obj.cells #[.int .i64 0, .int .i64 0, .int .i64 0, .int .i64 0, .int .i64 1] 70)).cell? ⟨w.heap.size + 1, 1, none⟩ = some (.int .i64 q) := (cell_alloc (cell_alloc k120 _) _)
  have k147 : ((W10.alloc (Obj.cells #[.int .i64 0, .int .i64 0] 44)).alloc (Obj.cells #[.int .i64 0, .int .i64 0, .int .i64 0, .int .i64 0, .int .i64 1] 70)).cell? ⟨w.heap.size + 1, 2, none⟩ = some (.int .i64 r) := (cell_alloc (cell_alloc k121 _) _)
  have k148 : ((W10.alloc (Obj.cells #[.int .i64 0, .int .i64 0] 44)).alloc (Obj.cells #[.int .i64 0, .int .i64 0, .int .i64 0, .int .i64 0, .int .i64 1] 70)).cell? ⟨w.heap.size + 1, 3, none⟩ = some (.int .i64 s) := (cell_alloc (cell_alloc k122 _) _)
  have k149 : ((W10.alloc (Obj.cells #[.int .i64 0, .int .i64 0] 44)).alloc (Obj.cells #[.int .i64 0, .int .i64 0, .int .i64 0, .int .i64 0, .int .i64 1] 70)).cell? ⟨w.heap.size + 1 + 1, 0, none⟩ = some (.int .i64 i) := (cell_alloc (cell_alloc k123 _) _)
  have k150 : ((W10.alloc (Obj.cells #[.int .i64 0, .int .i64 0] 44)).alloc (Obj.cells #[.int .i64 0, .int .i64 0, .int .i64 0, .int .i64 0, .int .i64 1] 70)).cell? ⟨w.heap.size + 1 + 1, 1, none⟩ = some (.int .i64 j) := (cell_alloc (cell_alloc k124 _) _)
  have k151 : ((W10.alloc (Obj.cells #[.int .i64 0, .int .i64 0] 44)).alloc (Obj.cells #[.int .i64 0, .int .i64 0, .int .i64 0, .int .i64 0, .int .i64 1] 70)).cell? ⟨W6.heap.size, 0, none⟩ = some (.int .i64 m1) := (cell_alloc (cell_alloc k125 _) _)
  have k152 : ((W10.alloc (Obj.cells #[.int .i64 0, .int .i64 0] 44)).alloc (Obj.cells #[.int .i64 0, .int .i64 0, .int .i64 0, .int .i64 0, .int .i64 1] 70)).cell? ⟨W6.heap.size, 1, none⟩ = some (.int .i64 m2) := (cell_alloc (cell_alloc k126 _) _)
  have k153 : ((W10.alloc (Obj.cells #[.int .i64 0, .int .i64 0] 44)).alloc (Obj.cells #[.int .i64 0, .int .i64 0, .int .i64 0, .int .i64 0, .int .i64 1] 70)).cell? ⟨W6.heap.size, 2, none⟩ = some (.int .i64 m3) := (cell_alloc (cell_alloc k127 _) _)
  have k154 : ((W10.alloc (Obj.cells #[.int .i64 0, .int .i64 0] 44)).alloc (Obj.cells #[.int .i64 0, .int .i64 0, .int .i64 0, .int .i64 0, .int .i64 1] 70)).cell? ⟨W6.heap.size, 3, none⟩ = some (.int .i64 m4) := (cell_alloc (cell_alloc k128 _) _)
  have k155 : ((W10.alloc (Obj.cells #[.int .i64 0, .int .i64 0] 44)).alloc (Obj.cells #[.int .i64 0, .int .i64 0, .int .i64 0, .int .i64 0, .int .i64 1] 70)).cell? ⟨W7.heap.size, 0, none⟩ = some (.int .i64 u1) := (cell_alloc (cell_alloc k129 _) _)
  have k156 : ((W10.alloc (Obj.cells #[.int .i64 0, .int .i64 0] 44)).alloc (Obj.cells #[.int .i64 0, .int .i64 0, .int .i64 0, .int .i64 0, .int .i64 1] 70)).cell? ⟨W7.heap.size, 1, none⟩ = some (.int .i64 u2) := (cell_alloc (cell_alloc k130 _) _)
  have k157 : ((W10.alloc (Obj.cells #[.int .i64 0, .int .i64 0] 44)).alloc (Obj.cells #[.int .i64 0, .int .i64 0, .int .i64 0, .int .i64 0, .int .i64 1] 70)).cell? ⟨W7.heap.size, 2, none⟩ = some (.int .i64 u3) := (cell_alloc (cell_alloc k131 _) _)
  have k158 : ((W10.alloc (Obj.cells #[.int .i64 0, .int .i64 0] 44)).alloc (Obj.cells #[.int .i64 0, .int .i64 0, .int .i64 0, .int .i64 0, .int .i64 1] 70)).cell? ⟨W7.heap.size, 3, none⟩ = some (.int .i64 u4) := (cell_alloc (cell_alloc k132 _) _)
  have k159 : ((W10.alloc (Obj.cells #[.int .i64 0, .int .i64 0] 44)).alloc (Obj.cells #[.int .i64 0, .int .i64 0, .int .i64 0, .int .i64 0, .int .i64 1] 70)).cell? ⟨W8.heap.size, 0, none⟩ = some (.int .i64 s1) := (cell_alloc (cell_alloc k133 _) _)
  have k160 : ((W10.alloc (Obj.cells #[.int .i64 0, .int .i64 0] 44)).alloc (Obj.cells #[.int .i64 0, .int .i64 0, .int .i64 0, .int .i64 0, .int .i64 1] 70)).cell? ⟨W8.heap.size, 1, none⟩ = some (.int .i64 s2) := (cell_alloc (cell_alloc k134 _) _)
  have k161 : ((W10.alloc (Obj.cells #[.int .i64 0, .int .i64 0] 44)).alloc (Obj.cells #[.int .i64 0, .int .i64 0, .int .i64 0, .int .i64 0, .int .i64 1] 70)).cell? ⟨W8.heap.size, 2, none⟩ = some (.int .i64 s3) := (cell_alloc (cell_alloc k135 _) _)
  have k162 : ((W10.alloc (Obj.cells #[.int .i64 0, .int .i64 0] 44)).alloc (Obj.cells #[.int .i64 0, .int .i64 0, .int .i64 0, .int .i64 0, .int .i64 1] 70)).cell? ⟨W8.heap.size, 3, none⟩ = some (.int .i64 s4) := (cell_alloc (cell_alloc k136 _) _)
  have k163 : ((W10.alloc (Obj.cells #[.int .i64 0, .int .i64 0] 44)).alloc (Obj.cells #[.int .i64 0, .int .i64 0, .int .i64 0, .int .i64 0, .int .i64 1] 70)).cell? ⟨W9.heap.size, 0, none⟩ = some (.int .i64 0) := (cell_alloc (cell_alloc k137 _) _)
  have k164 : ((W10.alloc (Obj.cells #[.int .i64 0, .int .i64 0] 44)).alloc (Obj.cells #[.int .i64 0, .int .i64 0, .int .i64 0, .int .i64 0, .int .i64 1] 70)).cell? ⟨W9.heap.size, 1, none⟩ = some (.int .i64 0) := (cell_alloc (cell_alloc k138 _) _)
  have k165 : ((W10.alloc (Obj.cells #[.int .i64 0, .int .i64 0] 44)).alloc (Obj.cells #[.int .i64 0, .int .i64 0, .int .i64 0, .int .i64 0, .int .i64 1] 70)).cell? ⟨W9.heap.size, 2, none⟩ = some (.int .i64 0) := (cell_alloc (cell_alloc k139 _) _)
  have k166 : ((W10.alloc (Obj.cells #[.int .i64 0, .int .i64 0] 44)).alloc (Obj.cells #[.int .i64 0, .int .i64 0, .int .i64 0, .int .i64 0, .int .i64 1] 70)).cell? ⟨W9.heap.size, 3, none⟩ = some (.int .i64 0) := (cell_alloc (cell_alloc k140 _) _)
  have k167 : ((W10.alloc (Obj.cells #[.int .i64 0, .int .i64 0] 44)).alloc (Obj.cells #[.int .i64 0, .int .i64 0, .int .i64 0, .int .i64 0, .int .i64 1] 70)).cell? ⟨W10.heap.size, 0, none⟩ = some (.int .i64 0) := by simp [go_sem]
  have k168 : ((W10.alloc (Obj.cells #[.int .i64 0, .int .i64 0] 44)).alloc (Obj.cells #[.int .i64 0, .int .i64 0, .int .i64 0, .int .i64 0, .int .i64 1] 70)).cell? ⟨W10.heap.size, 1, none⟩ = some (.int .i64 0) := by simp [go_sem]
  have k169 : ((W10.alloc (Obj.cells #[.int .i64 0, .int .i64 0] 44)).alloc (Obj.cells #[.int .i64 0, .int .i64 0, .int .i64 0, .int .i64 0, .int .i64 1] 70)).cell? ⟨W10.heap.size + 1, 0, none⟩ = some (.int .i64 0) := by simp [go_sem]
  have k170 : ((W10.alloc (Obj.cells #[.int .i64 0, .int .i64 0] 44)).alloc (Obj.cells #[.int .i64 0, .int .i64 0, .int .i64 0, .int .i64 0, .int .i64 1] 70)).cell? ⟨W10.heap.size + 1, 1, none⟩ = some (.int .i64 0) := by simp [go_sem]
  have k171 : ((W10.alloc (Obj.cells #[.int .i64 0, .int .i64 0] 44)).alloc (Obj.cells #[.int .i64 0, .int .i64 0, .int .i64 0, .int .i64 0, .int .i64 1] 70)).cell? ⟨W10.heap.size + 1, 2, none⟩ = some (.int .i64 0) := by simp [go_sem]
  have k172 : ((W10.alloc (Obj.cells #[.int .i64 0, .int .i64 0] 44)).alloc (Obj.cells #[.int .i64 0, .int .i64 0, .int .i64 0, .int .i64 0, .int .i64 1] 70)).cell? ⟨W10.heap.size + 1, 3, none⟩ = some (.int .i64 0) := by simp [go_sem]
  have k173 : ((W10.alloc (Obj.cells #[.int .i64 0, .int .i64 0] 44)).alloc (Obj.cells #[.int .i64 0, .int .i64 0, .int .i64 0, .int .i64 0, .int .i64 1] 70)).cell? ⟨W10.heap.size + 1, 4, none⟩ = some (.int .i64 1) := by simp [go_sem]
  have lk141 : w.heap.size < ((W10.alloc (Obj.cells #[.int .i64 0, .int .i64 0] 44)).alloc (Obj.cells #[.int .i64 0, .int .i64 0, .int .i64 0, .int .i64 0, .int .i64 1] 70)).heap.size := block_lt_of_cell k141
  have lk145 : w.heap.size + 1 < ((W10.alloc (Obj.cells #[.int .i64 0, .int .i64 0] 44)).alloc (Obj.cells #[.int .i64 0, .int .i64 0, .int .i64 0, .int .i64 0, .int .i64 1] 70)).heap.size := block_lt_of_cell k145
  have lk149 : w.heap.size + 1 + 1 < ((W10.alloc (Obj.cells #[.int .i64 0, .int .i64 0] 44)).alloc (Obj.cells #[.int .i64 0, .int .i64 0, .int .i64 0, .int .i64 0, .int .i64 1] 70)).heap.size := block_lt_of_cell k149
  have lk151 : W6.heap.size < ((W10.alloc (Obj.cells #[.int .i64 0, .int .i64 0] 44)).alloc (Obj.cells #[.int .i64 0, .int .i64 0, .int .i64 0, .int .i64 0, .int .i64 1] 70)).heap.size := block_lt_of_cell k151
  have lk155 : W7.heap.size < ((W10.alloc (Obj.cells #[.int .i64 0, .int .i64 0] 44)).alloc (Obj.cells #[.int .i64 0, .int .i64 0, .int .i64 0, .int .i64 0, .int .i64 1] 70)).heap.size := block_lt_of_cell k155
  have lk159 : W8.heap.size < ((W10.alloc (Obj.cells #[.int .i64 0, .int .i64 0] 44)).alloc (Obj.cells #[.int .i64 0, .int .i64 0, .int .i64 0, .int .i64 0, .int .i64 1] 70)).heap.size := block_lt_of_cell k159
  have lk163 : W9.heap.size < ((W10.alloc (Obj.cells #[.int .i64 0, .int .i64 0] 44)).alloc (Obj.cells #[.int .i64 0, .int .i64 0, .int .i64 0, .int .i64 0, .int .i64 1] 70)).heap.size := block_lt_of_cell k163
  have lk167 : W10.heap.size < ((W10.alloc (Obj.cells #[.int .i64 0, .int .i64 0] 44)).alloc (Obj.cells #[.int .i64 0, .int .i64 0, .int .i64 0, .int .i64 0, .int .i64 1] 70)).heap.size := block_lt_of_cell k167
  have lk169 : W10.heap.size + 1 < ((W10.alloc (Obj.cells #[.int .i64 0, .int .i64 0] 44)).alloc (Obj.cells #[.int .i64 0, .int .i64 0, .int .i64 0, .int .i64 0, .int .i64 1] 70)).heap.size := block_lt_of_cell k169
  have hv11 : Below w.heap.size w ((W10.alloc (Obj.cells #[.int .i64 0, .int .i64 0] 44)).alloc (Obj.cells #[.int .i64 0, .int .i64 0, .int .i64 0, .int .i64 0, .int .i64 1] 70)) := (below_alloc (below_alloc hv10 _) _)
  clear hv10 k115 k116 k117 k118 k119 k120 k121 k122 k123 k124 k125 k126 k127 k128 k129 k130 k131 k132 k133 k134 k135 k136 k137 k138 k139 k140 lk115 lk119 lk123 lk125 lk129 lk133 lk137
  generalize ((W10.alloc (Obj.cells #[.int .i64 0, .int .i64 0] 44)).alloc (Obj.cells #[.int .i64 0, .int .i64 0, .int .i64 0, .int .i64 0, .int .i64 1] 70)) = X11 at *
  have hTX : Hid (Tab X11.drew.heap.size X11.drew) := Lib.hid (Lib.tabBelow_of_tabIs (hT.out.on hv11.drew).here)
  go_cut [128] from 103 to 128 (fun s128 wx => s128 = .bool false ∧ wx.cell? ⟨w.heap.size, 0, none⟩ = some (.int .i64 a) ∧ wx.cell? ⟨w.heap.size, 1, none⟩ = some (.int .i64 b) ∧ wx.cell? ⟨w.heap.size, 2, none⟩ = some (.int .i64 c) ∧ wx.cell? ⟨w.heap.size, 3, none⟩ = some (.int .i64 d) ∧ wx.cell? ⟨w.heap.size + 1, 0, none⟩ = some (.int .i64 p) ∧ wx.cell? ⟨w.heap.size + 1, 1, none⟩ = some (.int .i64 q) ∧ wx.cell? ⟨w.heap.size + 1, 2, none⟩ = some (.int .i64 r) ∧ wx.cell? ⟨w.heap.size + 1, 3, none⟩ = some (.int .i64 s) ∧ wx.cell? ⟨w.heap.size + 1 + 1, 0, none⟩ = some (.int .i64 i) ∧ wx.cell? ⟨w.heap.size + 1 + 1, 1, none⟩ = some (.int .i64 j) ∧ wx.cell? ⟨W6.heap.size, 0, none⟩ = some (.int .i64 m1) ∧ wx.cell? ⟨W6.heap.size, 1, none⟩ = some (.int .i64 m2) ∧ wx.cell? ⟨W6.heap.size, 2, none⟩ = some (.int .i64 m3) ∧ wx.cell? ⟨W6.heap.size, 3, none⟩ = some (.int .i64 m4) ∧ wx.cell? ⟨W7.heap.size, 0, none⟩ = some (.int .i64 u1) ∧ wx.cell? ⟨W7.heap.size, 1, none⟩ = some (.int .i64 u2) ∧ wx.cell? ⟨W7.heap.size, 2, none⟩ = some (.int .i64 u3) ∧ wx.cell? ⟨W7.heap.size, 3, none⟩ = some (.int .i64 u4) ∧ wx.cell? ⟨W8.heap.size, 0, none⟩ = some (.int .i64 s1) ∧ wx.cell? ⟨W8.heap.size, 1, none⟩ = some (.int .i64 s2) ∧ wx.cell? ⟨W8.heap.size, 2, none⟩ = some (.int .i64 s3) ∧ wx.cell? ⟨W8.heap.size, 3, none⟩ = some (.int .i64 s4) ∧ wx.cell? ⟨W9.heap.size, 0, none⟩ = some (.int .i64 0) ∧ wx.cell? ⟨W9.heap.size, 1, none⟩ = some (.int .i64 0) ∧ wx.cell? ⟨W9.heap.size, 2, none⟩ = some (.int .i64 0) ∧ wx.cell? ⟨W9.heap.size, 3, none⟩ = some (.int .i64 0) ∧ wx.cell? ⟨W10.heap.size, 0, none⟩ = some (.int .i64 0) ∧ wx.cell? ⟨W10.heap.size, 1, none⟩ = some (.int .i64 0) ∧ wx.cell? ⟨W10.heap.size + 1, 0, none⟩ = some (.int .i64 0) ∧ wx.cell? ⟨W10.heap.size + 1, 1, none⟩ = some (.int .i64 0) ∧ wx.cell? ⟨W10.heap.size + 1, 2, none⟩ = some (.int .i64 0) ∧ wx.cell? ⟨W10.heap.size + 1, 3, none⟩ = some (.int .i64 0) ∧ wx.cell? ⟨W10.heap.size + 1, 4, none⟩ = some (.int .i64 1) ∧ Below w.heap.size w wx)
  case first =>
    have S0 : X11.drew.cell? ⟨w.heap.size, 0, none⟩ = some (.int .i64 a) ∧ X11.drew.cell? ⟨w.heap.size, 1, none⟩ = some (.int .i64 b) ∧ X11.drew.cell? ⟨w.heap.size, 2, none⟩ = some (.int .i64 c) ∧ X11.drew.cell? ⟨w.heap.size, 3, none⟩ = some (.int .i64 d) ∧ X11.drew.cell? ⟨w.heap.size + 1, 0, none⟩ = some (.int .i64 p) ∧ X11.drew.cell? ⟨w.heap.size + 1, 1, none⟩ = some (.int .i64 q) ∧ X11.drew.cell? ⟨w.heap.size + 1, 2, none⟩ = some (.int .i64 r) ∧ X11.drew.cell? ⟨w.heap.size + 1, 3, none⟩ = some (.int .i64 s) ∧ X11.drew.cell? ⟨w.heap.size + 1 + 1, 0, none⟩ = some (.int .i64 i) ∧ X11.drew.cell? ⟨w.heap.size + 1 + 1, 1, none⟩ = some (.int .i64 j) ∧ X11.drew.cell? ⟨W6.heap.size, 0, none⟩ = some (.int .i64 m1) ∧ X11.drew.cell? ⟨W6.heap.size, 1, none⟩ = some (.int .i64 m2) ∧ X11.drew.cell? ⟨W6.heap.size, 2, none⟩ = some (.int .i64 m3) ∧ X11.drew.cell? ⟨W6.heap.size, 3, none⟩ = some (.int .i64 m4) ∧ X11.drew.cell? ⟨W7.heap.size, 0, none⟩ = some (.int .i64 u1) ∧ X11.drew.cell? ⟨W7.heap.size, 1, none⟩ = some (.int .i64 u2) ∧ X11.drew.cell? ⟨W7.heap.size, 2, none⟩ = some (.int .i64 u3) ∧ X11.drew.cell? ⟨W7.heap.size, 3, none⟩ = some (.int .i64 u4) ∧ X11.drew.cell? ⟨W8.heap.size, 0, none⟩ = some (.int .i64 s1) ∧ X11.drew.cell? ⟨W8.heap.size, 1, none⟩ = some (.int .i64 s2) ∧ X11.drew.cell? ⟨W8.heap.size, 2, none⟩ = some (.int .i64 s3) ∧ X11.drew.cell? ⟨W8.heap.size, 3, none⟩ = some (.int .i64 s4) ∧ X11.drew.cell? ⟨W9.heap.size, 0, none⟩ = some (.int .i64 0) ∧ X11.drew.cell? ⟨W9.heap.size, 1, none⟩ = some (.int .i64 0) ∧ X11.drew.cell? ⟨W9.heap.size, 2, none⟩ = some (.int .i64 0) ∧ X11.drew.cell? ⟨W9.heap.size, 3, none⟩ = some (.int .i64 0) ∧ X11.drew.cell? ⟨W10.heap.size, 0, none⟩ = some (.int .i64 0) ∧ X11.drew.cell? ⟨W10.heap.size, 1, none⟩ = some (.int .i64 0) ∧ X11.drew.cell? ⟨W10.heap.size + 1, 0, none⟩ = some (.int .i64 0) ∧ X11.drew.cell? ⟨W10.heap.size + 1, 1, none⟩ = some (.int .i64 0) ∧ X11.drew.cell? ⟨W10.heap.size + 1, 2, none⟩ = some (.int .i64 0) ∧ X11.drew.cell? ⟨W10.heap.size + 1, 3, none⟩ = some (.int .i64 0) ∧ X11.drew.cell? ⟨W10.heap.size + 1, 4, none⟩ = some (.int .i64 1) ∧ Below w.heap.size w X11.drew := ⟨by assumption, by assumption, by assumption, by assumption, by assumption, by assumption, by assumption, by assumption, by assumption, by assumption, by assumption, by assumption, by assumption, by assumption, by assumption, by assumption, by assumption, by assumption, by assumption, by assumption, by assumption, by assumption, by assumption, by assumption, by assumption, by assumption, by assumption, by assumption, by assumption, by assumption, by assumption, by assumption, by assumption, hv11.drew⟩
    go_region_held3 (fun w' => w'.cell? ⟨w.heap.size, 0, none⟩ = some (.int .i64 a) ∧ w'.cell? ⟨w.heap.size, 1, none⟩ = some (.int .i64 b) ∧ w'.cell? ⟨w.heap.size, 2, none⟩ = some (.int .i64 c) ∧ w'.cell? ⟨w.heap.size, 3, none⟩ = some (.int .i64 d) ∧ w'.cell? ⟨w.heap.size + 1, 0, none⟩ = some (.int .i64 p) ∧ w'.cell? ⟨w.heap.size + 1, 1, none⟩ = some (.int .i64 q) ∧ w'.cell? ⟨w.heap.size + 1, 2, none⟩ = some (.int .i64 r) ∧ w'.cell? ⟨w.heap.size + 1, 3, none⟩ = some (.int .i64 s) ∧ w'.cell? ⟨w.heap.size + 1 + 1, 0, none⟩ = some (.int .i64 i) ∧ w'.cell? ⟨w.heap.size + 1 + 1, 1, none⟩ = some (.int .i64 j) ∧ w'.cell? ⟨W6.heap.size, 0, none⟩ = some (.int .i64 m1) ∧ w'.cell? ⟨W6.heap.size, 1, none⟩ = some (.int .i64 m2) ∧ w'.cell? ⟨W6.heap.size, 2, none⟩ = some (.int .i64 m3) ∧ w'.cell? ⟨W6.heap.size, 3, none⟩ = some (.int .i64 m4) ∧ w'.cell? ⟨W7.heap.size, 0, none⟩ = some (.int .i64 u1) ∧ w'.cell? ⟨W7.heap.size, 1, none⟩ = some (.int .i64 u2) ∧ w'.cell? ⟨W7.heap.size, 2, none⟩ = some (.int .i64 u3) ∧ w'.cell? ⟨W7.heap.size, 3, none⟩ = some (.int .i64 u4) ∧ w'.cell? ⟨W8.heap.size, 0, none⟩ = some (.int .i64 s1) ∧ w'.cell? ⟨W8.heap.size, 1, none⟩ = some (.int .i64 s2) ∧ w'.cell? ⟨W8.heap.size, 2, none⟩ = some (.int .i64 s3) ∧ w'.cell? ⟨W8.heap.size, 3, none⟩ = some (.int .i64 s4) ∧ w'.cell? ⟨W9.heap.size, 0, none⟩ = some (.int .i64 0) ∧ w'.cell? ⟨W9.heap.size, 1, none⟩ = some (.int .i64 0) ∧ w'.cell? ⟨W9.heap.size, 2, none⟩ = some (.int .i64 0) ∧ w'.cell? ⟨W9.heap.size, 3, none⟩ = some (.int .i64 0) ∧ w'.cell? ⟨W10.heap.size, 0, none⟩ = some (.int .i64 0) ∧ w'.cell? ⟨W10.heap.size, 1, none⟩ = some (.int .i64 0) ∧ w'.cell? ⟨W10.heap.size + 1, 0, none⟩ = some (.int .i64 0) ∧ w'.cell? ⟨W10.heap.size + 1, 1, none⟩ = some (.int .i64 0) ∧ w'.cell? ⟨W10.heap.size + 1, 2, none⟩ = some (.int .i64 0) ∧ w'.cell? ⟨W10.heap.size + 1, 3, none⟩ = some (.int .i64 0) ∧ w'.cell? ⟨W10.heap.size + 1, 4, none⟩ = some (.int .i64 1) ∧ Below w.heap.size w w')
      (first | with_reducible exact S0 | with_reducible exact keep33 (by assumption) hbp | with_reducible exact keep33 (by assumption) (drewN_below _))
      (first
        | (go_at_call 63
           refine (KM.out _).mono ?_
           rintro e wp ⟨he, hbp⟩
           subst he)
        | (go_at_call 62
           refine (as_yes _ _ _ _ _ _).mono ?_
           rintro e wp ⟨he, hbp⟩
           subst he)
        | (go_at_call 64
           refine (KU.out _).mono ?_
           rintro e wp ⟨he, hbp⟩
           subst he)
        | (go_at_call 65
           refine (KS.out _).mono ?_
           rintro e wp ⟨he, hbp⟩
           subst he))
    all_goals
      go_split_ands
      try go_split_ands
      go_wp2_with fail
      go_meet
      exact ⟨rfl, by with_reducible assumption, by with_reducible assumption, by with_reducible assumption, by with_reducible assumption, by with_reducible assumption, by with_reducible assumption, by with_reducible assumption, by with_reducible assumption, by with_reducible assumption, by with_reducible assumption, by with_reducible assumption, by with_reducible assumption, by with_reducible assumption, by with_reducible assumption, by with_reducible assumption, by with_reducible assumption, by with_reducible assumption, by with_reducible assumption, by with_reducible assumption, by with_reducible assumption, by with_reducible assumption, by with_reducible assumption, by with_reducible assumption, by with_reducible assumption, by with_reducible assumption, by with_reducible assumption, by with_reducible assumption, by with_reducible assumption, by with_reducible assumption, by with_reducible assumption, by with_reducible assumption, by with_reducible assumption, by with_reducible assumption, by with_reducible assumption⟩
  case rest =>
    generalize wc = V12 at hcut ⊢
    clear wc
    obtain ⟨rfl, k174, k175, k176, k177, k178, k179, k180, k181, k182, k183, k184, k185, k186, k187, k188, k189, k190, k191, k192, k193, k194, k195, k196, k197, k198, k199, k200, k201, k202, k203, k204, k205, k206, hv12⟩ := hcut
    clear hv11 k141 k142 k143 k144 k145 k146 k147 k148 k149 k150 k151 k152 k153 k154 k155 k156 k157 k158 k159 k160 k161 k162 k163 k164 k165 k166 k167 k168 k169 k170 k171 k172 k173 lk141 lk145 lk149 lk151 lk155 lk159 lk163 lk167 lk169
    have lk174 : w.heap.size < V12.heap.size := block_lt_of_cell k174
    have lk178 : w.heap.size + 1 < V12.heap.size := block_lt_of_cell k178
    have lk182 : w.heap.size + 1 + 1 < V12.heap.size := block_lt_of_cell k182
    have lk184 : W6.heap.size < V12.heap.size := block_lt_of_cell k184
    have lk188 : W7.heap.size < V12.heap.size := block_lt_of_cell k188
    have lk192 : W8.heap.size < V12.heap.size := block_lt_of_cell k192
    have lk196 : W9.heap.size < V12.heap.size := block_lt_of_cell k196
    have lk200 : W10.heap.size < V12.heap.size := block_lt_of_cell k200
    have lk202 : W10.heap.size + 1 < V12.heap.size := block_lt_of_cell k202
    clear k178 k179 k180 k181 lk178
    clear k184 k185 k186 k187 lk184
    clear k188 k189 k190 k191 lk188
    clear k192 k193 k194 k195 lk192
    go_wp2_with fail
    refine (as_yes 0 0 0 0 1 _).mono ?_
    rintro e W13 ⟨rfl, hb13⟩
    have k207 : W13.cell? ⟨w.heap.size, 0, none⟩ = some (.int .i64 a) := kept1 k174 hb13
    have k208 : W13.cell? ⟨w.heap.size, 1, none⟩ = some (.int .i64 b) := kept1 k175 hb13
    have k209 : W13.cell? ⟨w.heap.size, 2, none⟩ = some (.int .i64 c) := kept1 k176 hb13
    have k210 : W13.cell? ⟨w.heap.size, 3, none⟩ = some (.int .i64 d) := kept1 k177 hb13
    have k211 : W13.cell? ⟨w.heap.size + 1 + 1, 0, none⟩ = some (.int .i64 i) := kept1 k182 hb13
    have k212 : W13.cell? ⟨w.heap.size + 1 + 1, 1, none⟩ = some (.int .i64 j) := kept1 k183 hb13
    have k213 : W13.cell? ⟨W9.heap.size, 0, none⟩ = some (.int .i64 0) := kept1 k196 hb13
    have k214 : W13.cell? ⟨W9.heap.size, 1, none⟩ = some (.int .i64 0) := kept1 k197 hb13
    have k215 : W13.cell? ⟨W9.heap.size, 2, none⟩ = some (.int .i64 0) := kept1 k198 hb13
    have k216 : W13.cell? ⟨W9.heap.size, 3, none⟩ = some (.int .i64 0) := kept1 k199 hb13
    have k217 : W13.cell? ⟨W10.heap.size, 0, none⟩ = some (.int .i64 0) := kept1 k200 hb13
    have k218 : W13.cell? ⟨W10.heap.size, 1, none⟩ = some (.int .i64 0) := kept1 k201 hb13
    have k219 : W13.cell? ⟨W10.heap.size + 1, 0, none⟩ = some (.int .i64 0) := kept1 k202 hb13
    have k220 : W13.cell? ⟨W10.heap.size + 1, 1, none⟩ = some (.int .i64 0) := kept1 k203 hb13
    have k221 : W13.cell? ⟨W10.heap.size + 1, 2, none⟩ = some (.int .i64 0) := kept1 k204 hb13
    have k222 : W13.cell? ⟨W10.heap.size + 1, 3, none⟩ = some (.int .i64 0) := kept1 k205 hb13
    have k223 : W13.cell? ⟨W10.heap.size + 1, 4, none⟩ = some (.int .i64 1) := kept1 k206 hb13
    have lk207 : w.heap.size < W13.heap.size := block_lt_of_cell k207
    have lk211 : w.heap.size + 1 + 1 < W13.heap.size := block_lt_of_cell k211
    have lk213 : W9.heap.size < W13.heap.size := block_lt_of_cell k213
    have lk217 : W10.heap.size < W13.heap.size := block_lt_of_cell k217
    have lk219 : W10.heap.size + 1 < W13.heap.size := block_lt_of_cell k219
    have hv13 : Below w.heap.size w W13 := bstep0 hv12 hb13
    clear hb13 hv12 k174 k175 k176 k177 k182 k183 k196 k197 k198 k199 k200 k201 k202 k203 k204 k205 k206 lk174 lk182 lk196 lk200 lk202
    clear k211 k212 lk211
    clear k213 k214 k215 k216 lk213
    clear k219 k220 k221 k222 k223 lk219
    go_wp2_with fail
    refine (KV.out _).mono ?_
    rintro e W14 ⟨rfl, hb14⟩
    have k224 : W14.cell? ⟨w.heap.size, 0, none⟩ = some (.int .i64 a) := kept1 k207 hb14
    have k225 : W14.cell? ⟨w.heap.size, 1, none⟩ = some (.int .i64 b) := kept1 k208 hb14
    have k226 : W14.cell? ⟨w.heap.size, 2, none⟩ = some (.int .i64 c) := kept1 k209 hb14
    have k227 : W14.cell? ⟨w.heap.size, 3, none⟩ = some (.int .i64 d) := kept1 k210 hb14
    have k228 : W14.cell? ⟨W10.heap.size, 0, none⟩ = some (.int .i64 0) := kept1 k217 hb14
    have k229 : W14.cell? ⟨W10.heap.size, 1, none⟩ = some (.int .i64 0) := kept1 k218 hb14
    have lk224 : w.heap.size < W14.heap.size := block_lt_of_cell k224
    have lk228 : W10.heap.size < W14.heap.size := block_lt_of_cell k228
    have hv14 : Below w.heap.size w W14 := bstep0 hv13 hb14
    clear hb14 hv13 k207 k208 k209 k210 k217 k218 lk207 lk217
    go_wp2_with fail
    refine (sanity_tab hT _ (below_alloc hv14 _)).mono ?_
    rintro e W15 ⟨rfl, hb15⟩
    have k230 : W15.cell? ⟨w.heap.size, 0, none⟩ = some (.int .i64 a) := kept_a1 k224 hb15
    have k231 : W15.cell? ⟨w.heap.size, 1, none⟩ = some (.int .i64 b) := kept_a1 k225 hb15
    have k232 : W15.cell? ⟨w.heap.size, 2, none⟩ = some (.int .i64 c) := kept_a1 k226 hb15
    have k233 : W15.cell? ⟨w.heap.size, 3, none⟩ = some (.int .i64 d) := kept_a1 k227 hb15
    have k234 : W15.cell? ⟨W10.heap.size, 0, none⟩ = some (.int .i64 0) := kept_a1 k228 hb15
    have k235 : W15.cell? ⟨W10.heap.size, 1, none⟩ = some (.int .i64 0) := kept_a1 k229 hb15
    have k236 : W15.cell? ⟨W14.heap.size, 0, none⟩ = some (.int .i64 lo) := kept1 (by simp [go_sem]) hb15
    have k237 : W15.cell? ⟨W14.heap.size, 1, none⟩ = some (.int .i64 hi) := kept1 (by simp [go_sem]) hb15
    have lk230 : w.heap.size < W15.heap.size := block_lt_of_cell k230
    have lk234 : W10.heap.size < W15.heap.size := block_lt_of_cell k234
    have lk236 : W14.heap.size < W15.heap.size := block_lt_of_cell k236
    have hv15 : Below w.heap.size w W15 := bstep1 hv14 hb15
    clear hb15 hv14 k224 k225 k226 k227 k228 k229 lk224 lk228
    go_wp2
    go_ret
    exact ⟨by first | rfl | simp, (by repeat (first | with_reducible exact Below.refl _ _ | with_reducible assumption | refine below_drewN ?_ _ | refine Below.drew ?_ | refine Below.alloc ?_ (by first | (simp; done) | (simp; omega) | omega) _ | refine Below.setCell ?_ (by first | (simp; done) | (simp; omega) | omega) _ | refine Below.trans ?_ (Below.mono (by assumption) (by first | (simp; done) | (simp; omega) | omega))))⟩

set_option maxRecDepth 100000 in
set_option maxHeartbeats 8000000 in
theorem ranges_TTFT (a b c d p q r s i j m1 m2 m3 m4 u1 u2 u3 u4 s1 s2 s3 s4 me se lo hi : Int) (KX : Hid (∀ W : World, Calls Tryd.prog 50 #[.agg #[.int .i64 a, .int .i64 b, .int .i64 c, .int .i64 d]] W fun e w' => e = .returned (.bool true) ∧ Below W.heap.size W w')) (KY : Hid (∀ W : World, Calls Tryd.prog 50 #[.agg #[.int .i64 p, .int .i64 q, .int .i64 r, .int .i64 s]] W fun e w' => e = .returned (.bool true) ∧ Below W.heap.size W w')) (KA : Hid (∀ W : World, Calls Tryd.prog 22 #[.agg #[.int .i64 i, .int .i64 j]] W fun e w' => e = .returned (.bool false) ∧ Below W.heap.size W w')) (EX : Hid (∀ W : World, Calls Tryd.prog 54 #[.agg #[.int .i64 a, .int .i64 b, .int .i64 c, .int .i64 d]] W fun e w' => e = .returned (.bool true) ∧ Below W.heap.size W w')) (EH : Hid (∀ W : World, Calls Tryd.prog 55 #[.agg #[.int .i64 a, .int .i64 b, .int .i64 c, .int .i64 d], .agg #[.int .i64 i, .int .i64 j]] W fun e w' => e = .returned (.bool false) ∧ Below W.heap.size W w')) (EM : Hid (∀ W : World, Calls Tryd.prog 57 #[.agg #[.int .i64 a, .int .i64 b, .int .i64 c, .int .i64 d], .agg #[.int .i64 p, .int .i64 q, .int .i64 r, .int .i64 s]] W fun e' w' => e' = .returned (.tuple #[.agg #[.int .i64 m1, .int .i64 m2, .int .i64 m3, .int .i64 m4], .int .i64 me]) ∧ Below W.heap.size W w')) (EU : Hid (∀ W : World, Calls Tryd.prog 58 #[.agg #[.int .i64 a, .int .i64 b, .int .i64 c, .int .i64 d], .agg #[.int .i64 p, .int .i64 q, .int .i64 r, .int .i64 s]] W fun e w' => e = .returned (.tuple #[.agg #[.int .i64 u1, .int .i64 u2, .int .i64 u3, .int .i64 u4], .int .i64 0]) ∧ Below W.heap.size W w')) (ES : Hid (∀ W : World, Calls Tryd.prog 59 #[.agg #[.int .i64 a, .int .i64 b, .int .i64 c, .int .i64 d], .agg #[.int .i64 p, .int .i64 q, .int .i64 r, .int .i64 s]] W fun e w' => e = .returned (.tuple #[.agg #[.int .i64 s1, .int .i64 s2, .int .i64 s3, .int .i64 s4], .int .i64 se]) ∧ Below W.heap.size W w')) (ET : Hid (∀ W : World, Calls Tryd.prog 60 #[.agg #[.int .i64 a, .int .i64 b, .int .i64 c, .int .i64 d], .agg #[.int .i64 i, .int .i64 j]] W fun e w' => e = .returned (.tuple #[.agg #[.int .i64 0, .int .i64 0, .int .i64 0, .int .i64 0], .int .i64 1]) ∧ Below W.heap.size W w')) (EV : Hid (∀ W : World, Calls Tryd.prog 61 #[.agg #[.int .i64 a, .int .i64 b, .int .i64 c, .int .i64 d]] W fun e w' => e = .returned (.tuple #[.agg #[.int .i64 lo, .int .i64 hi], .int .i64 0]) ∧ Below W.heap.size W w')) (KM : Hid (∀ W : World, Calls Tryd.prog 63 #[.agg #[.int .i64 a, .int .i64 b, .int .i64 c, .int .i64 d], .agg #[.int .i64 p, .int .i64 q, .int .i64 r, .int .i64 s]] W fun e w' => e = .returned (.agg #[.int .i64 m1, .int .i64 m2, .int .i64 m3, .int .i64 m4, .int .i64 me]) ∧ Below W.heap.size W w')) (KU : Hid (∀ W : World, Calls Tryd.prog 64 #[.agg #[.int .i64 a, .int .i64 b, .int .i64 c, .int .i64 d], .agg #[.int .i64 p, .int .i64 q, .int .i64 r, .int .i64 s]] W fun e w' => e = .returned (.agg #[.int .i64 u1, .int .i64 u2, .int .i64 u3, .int .i64 u4]) ∧ Below W.heap.size W w')) (KS : Hid (∀ W : World, Calls Tryd.prog 65 #[.agg #[.int .i64 a, .int .i64 b, .int .i64 c, .int .i64 d], .agg #[.int .i64 p, .int .i64 q, .int .i64 r, .int .i64 s]] W fun e w' => e = .returned (.agg #[.int .i64 s1, .int .i64 s2, .int .i64 s3, .int .i64 s4, .int .i64 se]) ∧ Below W.heap.size W w')) (KV : Hid (∀ W : World, Calls Tryd.prog 67 #[.agg #[.int .i64 a, .int .i64 b, .int .i64 c, .int .i64 d]] W fun e w' => e = .returned (.tuple #[.agg #[.int .i64 lo, .int .i64 hi], .bool true]) ∧ Below W.heap.size W w')) (w : World) (hT : Hid (Tab w.heap.size w)) :
    Calls Tryd.prog 9 #[.agg #[.int .i64 a, .int .i64 b, .int .i64 c, .int .i64 d], .agg #[.int .i64 p, .int .i64 q, .int .i64 r, .int .i64 s], .agg #[.int .i64 i, .int .i64 j]] w fun e w' => e = .returned (.bool true) ∧ Below w.heap.size w w' := by
  go_enter Tryd.func9, Tryd.ntmps9
  go_wp2_with fail
  refine (KX.out _).mono ?_
  rintro e W1 ⟨rfl, hb1⟩
  have k1 : W1.cell? ⟨w.heap.size, 0, none⟩ = some (.int .i64 a) := kept1 (by simp [go_sem]) hb1
  have k2 : W1.cell? ⟨w.heap.size, 1, none⟩ = some (.int .i64 b) := kept1 (by simp [go_sem]) hb1
  have k3 : W1.cell? ⟨w.heap.size, 2, none⟩ = some (.int .i64 c) := kept1 (by simp [go_sem]) hb1
  have k4 : W1.cell? ⟨w.heap.size, 3, none⟩ = some (.int .i64 d) := kept1 (by simp [go_sem]) hb1
  have k5 : W1.cell? ⟨w.heap.size + 1, 0, none⟩ = some (.int .i64 p) := kept1 (by simp [go_sem]) hb1
  have k6 : W1.cell? ⟨w.heap.size + 1, 1, none⟩ = some (.int .i64 q) := kept1 (by simp [go_sem]) hb1
  have k7 : W1.cell? ⟨w.heap.size + 1, 2, none⟩ = some (.int .i64 r) := kept1 (by simp [go_sem]) hb1
  have k8 : W1.cell? ⟨w.heap.size + 1, 3, none⟩ = some (.int .i64 s) := kept1 (by simp [go_sem]) hb1
  have k9 : W1.cell? ⟨w.heap.size + 1 + 1, 0, none⟩ = some (.int .i64 i) := kept1 (by simp [go_sem]) hb1
  have k10 : W1.cell? ⟨w.heap.size + 1 + 1, 1, none⟩ = some (.int .i64 j) := kept1 (by simp [go_sem]) hb1
  have lk1 : w.heap.size < W1.heap.size := block_lt_of_cell k1
  have lk5 : w.heap.size + 1 < W1.heap.size := block_lt_of_cell k5
  have lk9 : w.heap.size + 1 + 1 < W1.heap.size := block_lt_of_cell k9
  have hv1 : Below w.heap.size w W1 := bstep3 (Below.refl _ _) hb1
  clear hb1  
  go_wp2_with fail
  refine (KY.out _).mono ?_
  rintro e W2 ⟨rfl, hb2⟩
  have k11 : W2.cell? ⟨w.heap.size, 0, none⟩ = some (.int .i64 a) := kept1 k1 hb2
  have k12 : W2.cell? ⟨w.heap.size, 1, none⟩ = some (.int .i64 b) := kept1 k2 hb2
  have k13 : W2.cell? ⟨w.heap.size, 2, none⟩ = some (.int .i64 c) := kept1 k3 hb2
  have k14 : W2.cell? ⟨w.heap.size, 3, none⟩ = some (.int .i64 d) := kept1 k4 hb2
  have k15 : W2.cell? ⟨w.heap.size + 1, 0, none⟩ = some (.int .i64 p) := kept1 k5 hb2
  have k16 : W2.cell? ⟨w.heap.size + 1, 1, none⟩ = some (.int .i64 q) := kept1 k6 hb2
  have k17 : W2.cell? ⟨w.heap.size + 1, 2, none⟩ = some (.int .i64 r) := kept1 k7 hb2
  have k18 : W2.cell? ⟨w.heap.size + 1, 3, none⟩ = some (.int .i64 s) := kept1 k8 hb2
  have k19 : W2.cell? ⟨w.heap.size + 1 + 1, 0, none⟩ = some (.int .i64 i) := kept1 k9 hb2
  have k20 : W2.cell? ⟨w.heap.size + 1 + 1, 1, none⟩ = some (.int .i64 j) := kept1 k10 hb2
  have lk11 : w.heap.size < W2.heap.size := block_lt_of_cell k11
  have lk15 : w.heap.size + 1 < W2.heap.size := block_lt_of_cell k15
  have lk19 : w.heap.size + 1 + 1 < W2.heap.size := block_lt_of_cell k19
  have hv2 : Below w.heap.size w W2 := bstep0 hv1 hb2
  clear hb2 hv1 k1 k2 k3 k4 k5 k6 k7 k8 k9 k10 lk1 lk5 lk9
  go_wp2_with fail
  refine (KA.out _).mono ?_
  rintro e W3 ⟨rfl, hb3⟩
  have k21 : W3.cell? ⟨w.heap.size, 0, none⟩ = some (.int .i64 a) := kept1 k11 hb3
  have k22 : W3.cell? ⟨w.heap.size, 1, none⟩ = some (.int .i64 b) := kept1 k12 hb3
  have k23 : W3.cell? ⟨w.heap.size, 2, none⟩ = some (.int .i64 c) := kept1 k13 hb3
  have k24 : W3.cell? ⟨w.heap.size, 3, none⟩ = some (.int .i64 d) := kept1 k14 hb3
  have k25 : W3.cell? ⟨w.heap.size + 1, 0, none⟩ = some (.int .i64 p) := kept1 k15 hb3
  have k26 : W3.cell? ⟨w.heap.size + 1, 1, none⟩ = some (.int .i64 q) := kept1 k16 hb3
  have k27 : W3.cell? ⟨w.heap.size + 1, 2, none⟩ = some (.int .i64 r) := kept1 k17 hb3
  have k28 : W3.cell? ⟨w.heap.size + 1, 3, none⟩ = some (.int .i64 s) := kept1 k18 hb3
  have k29 : W3.cell? ⟨w.heap.size + 1 + 1, 0, none⟩ = some (.int .i64 i) := kept1 k19 hb3
  have k30 : W3.cell? ⟨w.heap.size + 1 + 1, 1, none⟩ = some (.int .i64 j) := kept1 k20 hb3
  have lk21 : w.heap.size < W3.heap.size := block_lt_of_cell k21
  have lk25 : w.heap.size + 1 < W3.heap.size := block_lt_of_cell k25
  have lk29 : w.heap.size + 1 + 1 < W3.heap.size := block_lt_of_cell k29
  have hv3 : Below w.heap.size w W3 := bstep0 hv2 hb3
  clear hb3 hv2 k11 k12 k13 k14 k15 k16 k17 k18 k19 k20 lk11 lk15 lk19
  go_wp2_with fail
  refine (EX.out _).mono ?_
  rintro e W4 ⟨rfl, hb4⟩
  have k31 : W4.cell? ⟨w.heap.size, 0, none⟩ = some (.int .i64 a) := kept1 k21 hb4
  have k32 : W4.cell? ⟨w.heap.size, 1, none⟩ = some (.int .i64 b) := kept1 k22 hb4
  have k33 : W4.cell? ⟨w.heap.size, 2, none⟩ = some (.int .i64 c) := kept1 k23 hb4
  have k34 : W4.cell? ⟨w.heap.size, 3, none⟩ = some (.int .i64 d) := kept1 k24 hb4
  have k35 : W4.cell? ⟨w.heap.size + 1, 0, none⟩ = some (.int .i64 p) := kept1 k25 hb4
  have k36 : W4.cell? ⟨w.heap.size + 1, 1, none⟩ = some (.int .i64 q) := kept1 k26 hb4
  have k37 : W4.cell? ⟨w.heap.size + 1, 2, none⟩ = some (.int .i64 r) := kept1 k27 hb4
  have k38 : W4.cell? ⟨w.heap.size + 1, 3, none⟩ = some (.int .i64 s) := kept1 k28 hb4
  have k39 : W4.cell? ⟨w.heap.size + 1 + 1, 0, none⟩ = some (.int .i64 i) := kept1 k29 hb4
  have k40 : W4.cell? ⟨w.heap.size + 1 + 1, 1, none⟩ = some (.int .i64 j) := kept1 k30 hb4
  have lk31 : w.heap.size < W4.heap.size := block_lt_of_cell k31
  have lk35 : w.heap.size + 1 < W4.heap.size := block_lt_of_cell k35
  have lk39 : w.heap.size + 1 + 1 < W4.heap.size := block_lt_of_cell k39
  have hv4 : Below w.heap.size w W4 := bstep0 hv3 hb4
  clear hb4 hv3 k21 k22 k23 k24 k25 k26 k27 k28 k29 k30 lk21 lk25 lk29
  go_wp2_with fail
  refine (EH.out _).mono ?_
  rintro e W5 ⟨rfl, hb5⟩
  have k41 : W5.cell? ⟨w.heap.size, 0, none⟩ = some (.int .i64 a) := kept1 k31 hb5
  have k42 : W5.cell? ⟨w.heap.size, 1, none⟩ = some (.int .i64 b) := kept1 k32 hb5
  have k43 : W5.cell? ⟨w.heap.size, 2, none⟩ = some (.int .i64 c) := kept1 k33 hb5
  have k44 : W5.cell? ⟨w.heap.size, 3, none⟩ = some (.int .i64 d) := kept1 k34 hb5
  have k45 : W5.cell? ⟨w.heap.size + 1, 0, none⟩ = some (.int .i64 p) := kept1 k35 hb5
  have k46 : W5.cell? ⟨w.heap.size + 1, 1, none⟩ = some (.int .i64 q) := kept1 k36 hb5
  have k47 : W5.cell? ⟨w.heap.size + 1, 2, none⟩ = some (.int .i64 r) := kept1 k37 hb5
  have k48 : W5.cell? ⟨w.heap.size + 1, 3, none⟩ = some (.int .i64 s) := kept1 k38 hb5
  have k49 : W5.cell? ⟨w.heap.size + 1 + 1, 0, none⟩ = some (.int .i64 i) := kept1 k39 hb5
  have k50 : W5.cell? ⟨w.heap.size + 1 + 1, 1, none⟩ = some (.int .i64 j) := kept1 k40 hb5
  have lk41 : w.heap.size < W5.heap.size := block_lt_of_cell k41
  have lk45 : w.heap.size + 1 < W5.heap.size := block_lt_of_cell k45
  have lk49 : w.heap.size + 1 + 1 < W5.heap.size := block_lt_of_cell k49
  have hv5 : Below w.heap.size w W5 := bstep0 hv4 hb5
  clear hb5 hv4 k31 k32 k33 k34 k35 k36 k37 k38 k39 k40 lk31 lk35 lk39
  go_wp2_with fail
  refine (EM.out _).mono ?_
  rintro e W6 ⟨rfl, hb6⟩
  have k51 : W6.cell? ⟨w.heap.size, 0, none⟩ = some (.int .i64 a) := kept1 k41 hb6
  have k52 : W6.cell? ⟨w.heap.size, 1, none⟩ = some (.int .i64 b) := kept1 k42 hb6
  have k53 : W6.cell? ⟨w.heap.size, 2, none⟩ = some (.int .i64 c) := kept1 k43 hb6
  have k54 : W6.cell? ⟨w.heap.size, 3, none⟩ = some (.int .i64 d) := kept1 k44 hb6
  have k55 : W6.cell? ⟨w.heap.size + 1, 0, none⟩ = some (.int .i64 p) := kept1 k45 hb6
  have k56 : W6.cell? ⟨w.heap.size + 1, 1, none⟩ = some (.int .i64 q) := kept1 k46 hb6
  have k57 : W6.cell? ⟨w.heap.size + 1, 2, none⟩ = some (.int .i64 r) := kept1 k47 hb6
  have k58 : W6.cell? ⟨w.heap.size + 1, 3, none⟩ = some (.int .i64 s) := kept1 k48 hb6
  have k59 : W6.cell? ⟨w.heap.size + 1 + 1, 0, none⟩ = some (.int .i64 i) := kept1 k49 hb6
  have k60 : W6.cell? ⟨w.heap.size + 1 + 1, 1, none⟩ = some (.int .i64 j) := kept1 k50 hb6
  have lk51 : w.heap.size < W6.heap.size := block_lt_of_cell k51
  have lk55 : w.heap.size + 1 < W6.heap.size := block_lt_of_cell k55
  have lk59 : w.heap.size + 1 + 1 < W6.heap.size := block_lt_of_cell k59
  have hv6 : Below w.heap.size w W6 := bstep0 hv5 hb6
  clear hb6 hv5 k41 k42 k43 k44 k45 k46 k47 k48 k49 k50 lk41 lk45 lk49
  go_wp2_with fail
  refine (EU.out _).mono ?_
  rintro e W7 ⟨rfl, hb7⟩
  have k61 : W7.cell? ⟨w.heap.size, 0, none⟩ = some (.int .i64 a) := kept_a1 k51 hb7
  have k62 : W7.cell? ⟨w.heap.size, 1, none⟩ = some (.int .i64 b) := kept_a1 k52 hb7
  have k63 : W7.cell? ⟨w.heap.size, 2, none⟩ = some (.int .i64 c) := kept_a1 k53 hb7
  have k64 : W7.cell? ⟨w.heap.size, 3, none⟩ = some (.int .i64 d) := kept_a1 k54 hb7
  have k65 : W7.cell? ⟨w.heap.size + 1, 0, none⟩ = some (.int .i64 p) := kept_a1 k55 hb7
  have k66 : W7.cell? ⟨w.heap.size + 1, 1, none⟩ = some (.int .i64 q) := kept_a1 k56 hb7
  have k67 : W7.cell? ⟨w.heap.size + 1, 2, none⟩ = some (.int .i64 r) := kept_a1 k57 hb7
  have k68 : W7.cell? ⟨w.heap.size + 1, 3, none⟩ = some (.int .i64 s) := kept_a1 k58 hb7
  have k69 : W7.cell? ⟨w.heap.size + 1 + 1, 0, none⟩ = some (.int .i64 i) := kept_a1 k59 hb7
  have k70 : W7.cell? ⟨w.heap.size + 1 + 1, 1, none⟩ = some (.int .i64 j) := kept_a1 k60 hb7
  have k71 : W7.cell? ⟨W6.heap.size, 0, none⟩ = some (.int .i64 m1) := kept1 (by simp [go_sem]) hb7
  have k72 : W7.cell? ⟨W6.heap.size, 1, none⟩ = some (.int .i64 m2) := kept1 (by simp [go_sem]) hb7
  have k73 : W7.cell? ⟨W6.heap.size, 2, none⟩ = some (.int .i64 m3) := kept1 (by simp [go_sem]) hb7
  have k74 : W7.cell? ⟨W6.heap.size, 3, none⟩ = some (.int .i64 m4) := kept1 (by simp [go_sem]) hb7
  have lk61 : w.heap.size < W7.heap.size := block_lt_of_cell k61
  have lk65 : w.heap.size + 1 < W7.heap.size := block_lt_of_cell k65
  have lk69 : w.heap.size + 1 + 1 < W7.heap.size := block_lt_of_cell k69
  have lk71 : W6.heap.size < W7.heap.size := block_lt_of_cell k71
  have hv7 : Below w.heap.size w W7 := bstep1 hv6 hb7
  clear hb7 hv6 k51 k52 k53 k54 k55 k56 k57 k58 k59 k60 lk51 lk55 lk59
  go_wp2_with fail
  refine (ES.out _).mono ?_
  rintro e W8 ⟨rfl, hb8⟩
  have k75 : W8.cell? ⟨w.heap.size, 0, none⟩ = some (.int .i64 a) := kept_a1 k61 hb8
  have k76 : W8.cell? ⟨w.heap.size, 1, none⟩ = some (.int .i64 b) := kept_a1 k62 hb8
  have k77 : W8.cell? ⟨w.heap.size, 2, none⟩ = some (.int .i64 c) := kept_a1 k63 hb8
  have k78 : W8.cell? ⟨w.heap.size, 3, none⟩ = some (.int .i64 d) := kept_a1 k64 hb8
  have k79 : W8.cell? ⟨w.heap.size + 1, 0, none⟩ = some (.int .i64 p) := kept_a1 k65 hb8
  have k80 : W8.cell? ⟨w.heap.size + 1, 1, none⟩ = some (.int .i64 q) := kept_a1 k66 hb8
  have k81 : W8.cell? ⟨w.heap.size + 1, 2, none⟩ = some (.int .i64 r) := kept_a1 k67 hb8
  have k82 : W8.cell? ⟨w.heap.size + 1, 3, none⟩ = some (.int .i64 s) := kept_a1 k68 hb8
  have k83 : W8.cell? ⟨w.heap.size + 1 + 1, 0, none⟩ = some (.int .i64 i) := kept_a1 k69 hb8
  have k84 : W8.cell? ⟨w.heap.size + 1 + 1, 1, none⟩ = some (.int .i64 j) := kept_a1 k70 hb8
  have k85 : W8.cell? ⟨W6.heap.size, 0, none⟩ = some (.int .i64 m1) := kept_a1 k71 hb8
  have k86 : W8.cell? ⟨W6.heap.size, 1, none⟩ = some (.int .i64 m2) := kept_a1 k72 hb8
  have k87 : W8.cell? ⟨W6.heap.size, 2, none⟩ = some (.int .i64 m3) := kept_a1 k73 hb8
  have k88 : W8.cell? ⟨W6.heap.size, 3, none⟩ = some (.int .i64 m4) := kept_a1 k74 hb8
  have k89 : W8.cell? ⟨W7.heap.size, 0, none⟩ = some (.int .i64 u1) := kept1 (by simp [go_sem]) hb8
  have k90 : W8.cell? ⟨W7.heap.size, 1, none⟩ = some (.int .i64 u2) := kept1 (by simp [go_sem]) hb8
  have k91 : W8.cell? ⟨W7.heap.size, 2, none⟩ = some (.int .i64 u3) := kept1 (by simp [go_sem]) hb8
  have k92 : W8.cell? ⟨W7.heap.size, 3, none⟩ = some (.int .i64 u4) := kept1 (by simp [go_sem]) hb8
  have lk75 : w.heap.size < W8.heap.size := block_lt_of_cell k75
  have lk79 : w.heap.size + 1 < W8.heap.size := block_lt_of_cell k79
  have lk83 : w.heap.size + 1 + 1 < W8.heap.size := block_lt_of_cell k83
  have lk85 : W6.heap.size < W8.heap.size := block_lt_of_cell k85
  have lk89 : W7.heap.size < W8.heap.size := block_lt_of_cell k89
  have hv8 : Below w.heap.size w W8 := bstep1 hv7 hb8
  clear hb8 hv7 k61 k62 k63 k64 k65 k66 k67 k68 k69 k70 k71 k72 k73 k74 lk61 lk65 lk69 lk71
  go_wp2_with fail
  refine (ET.out _).mono ?_
  rintro e W9 ⟨rfl, hb9⟩
  have k93 : W9.cell? ⟨w.heap.size, 0, none⟩ = some (.int .i64 a) := kept_a1 k75 hb9
  have k94 : W9.cell? ⟨w.heap.size, 1, none⟩ = some (.int .i64 b) := kept_a1 k76 hb9
  have k95 : W9.cell? ⟨w.heap.size, 2, none⟩ = some (.int .i64 c) := kept_a1 k77 hb9
  have k96 : W9.cell? ⟨w.heap.size, 3, none⟩ = some (.int .i64 d) := kept_a1 k78 hb9
  have k97 : W9.cell? ⟨w.heap.size + 1, 0, none⟩ = some (.int .i64 p) := kept_a1 k79 hb9
  have k98 : W9.cell? ⟨w.heap.size + 1, 1, none⟩ = some (.int .i64 q) := kept_a1 k80 hb9
  have k99 : W9.cell? ⟨w.heap.size + 1, 2, none⟩ = some (.int .i64 r) := kept_a1 k81 hb9
  have k100 : W9.cell? ⟨w.heap.size + 1, 3, none⟩ = some (.int .i64 s) := kept_a1 k82 hb9
  have k101 : W9.cell? ⟨w.heap.size + 1 + 1, 0, none⟩ = some (.int .i64 i) := kept_a1 k83 hb9
  have k102 : W9.cell? ⟨w.heap.size + 1 + 1, 1, none⟩ = some (.int .i64 j) := kept_a1 k84 hb9
  have k103 : W9.cell? ⟨W6.heap.size, 0, none⟩ = some (.int .i64 m1) := kept_a1 k85 hb9
  have k104 : W9.cell? ⟨W6.heap.size, 1, none⟩ = some (.int .i64 m2) := kept_a1 k86 hb9
  have k105 : W9.cell? ⟨W6.heap.size, 2, none⟩ = some (.int .i64 m3) := kept_a1 k87 hb9
  have k106 : W9.cell? ⟨W6.heap.size, 3, none⟩ = some (.int .i64 m4) := kept_a1 k88 hb9
  have k107 : W9.cell? ⟨W7.heap.size, 0, none⟩ = some (.int .i64 u1) := kept_a1 k89 hb9
  have k108 : W9.cell? ⟨W7.heap.size, 1, none⟩ = some (.int .i64 u2) := kept_a1 k90 hb9
  have k109 : W9.cell? ⟨W7.heap.size, 2, none⟩ = some (.int .i64 u3) := kept_a1 k91 hb9
  have k110 : W9.cell? ⟨W7.heap.size, 3, none⟩ = some (.int .i64 u4) := kept_a1 k92 hb9
  have k111 : W9.cell? ⟨W8.heap.size, 0, none⟩ = some (.int .i64 s1) := kept1 (by simp [go_sem]) hb9
  have k112 : W9.cell? ⟨W8.heap.size, 1, none⟩ = some (.int .i64 s2) := kept1 (by simp [go_sem]) hb9
  have k113 : W9.cell? ⟨W8.heap.size, 2, none⟩ = some (.int .i64 s3) := kept1 (by simp [go_sem]) hb9
  have k114 : W9.cell? ⟨W8.heap.size, 3, none⟩ = some (.int .i64 s4) := kept1 (by simp [go_sem]) hb9
  have lk93 : w.heap.size < W9.heap.size := block_lt_of_cell k93
  have lk97 : w.heap.size + 1 < W9.heap.size := block_lt_of_cell k97
  have lk101 : w.heap.size + 1 + 1 < W9.heap.size := block_lt_of_cell k101
  have lk103 : W6.heap.size < W9.heap.size := block_lt_of_cell k103
  have lk107 : W7.heap.size < W9.heap.size := block_lt_of_cell k107
  have lk111 : W8.heap.size < W9.heap.size := block_lt_of_cell k111
  have hv9 : Below w.heap.size w W9 := bstep1 hv8 hb9
  clear hb9 hv8 k75 k76 k77 k78 k79 k80 k81 k82 k83 k84 k85 k86 k87 k88 k89 k90 k91 k92 lk75 lk79 lk83 lk85 lk89
  go_wp2_with fail
  refine (EV.out _).mono ?_
  rintro e W10 ⟨rfl, hb10⟩
  have k115 : W10.cell? ⟨w.heap.size, 0, none⟩ = some (.int .i64 a) := kept_a1 k93 hb10
  have k116 : W10.cell? ⟨w.heap.size, 1, none⟩ = some (.int .i64 b) := kept_a1 k94 hb10
  have k117 : W10.cell? ⟨w.heap.size, 2, none⟩ = some (.int .i64 c) := kept_a1 k95 hb10
  have k118 : W10.cell? ⟨w.heap.size, 3, none⟩ = some (.int .i64 d) := kept_a1 k96 hb10
  have k119 : W10.cell? ⟨w.heap.size + 1, 0, none⟩ = some (.int .i64 p) := kept_a1 k97 hb10
  have k120 : W10.cell? ⟨w.heap.size + 1, 1, none⟩ = some (.int .i64 q) := kept_a1 k98 hb10
  have k121 : W10.cell? ⟨w.heap.size + 1, 2, none⟩ = some (.int .i64 r) := kept_a1 k99 hb10
  have k122 : W10.cell? ⟨w.heap.size + 1, 3, none⟩ = some (.int .i64 s) := kept_a1 k100 hb10
  have k123 : W10.cell? ⟨w.heap.size + 1 + 1, 0, none⟩ = some (.int .i64 i) := kept_a1 k101 hb10
  have k124 : W10.cell? ⟨w.heap.size + 1 + 1, 1, none⟩ = some (.int .i64 j) := kept_a1 k102 hb10
  have k125 : W10.cell? ⟨W6.heap.size, 0, none⟩ = some (.int .i64 m1) := kept_a1 k103 hb10
  have k126 : W10.cell? ⟨W6.heap.size, 1, none⟩ = some (.int .i64 m2) := kept_a1 k104 hb10
  have k127 : W10.cell? ⟨W6.heap.size, 2, none⟩ = some (.int .i64 m3) := kept_a1 k105 hb10
  have k128 : W10.cell? ⟨W6.heap.size, 3, none⟩ = some (.int .i64 m4) := kept_a1 k106 hb10
  have k129 : W10.cell? ⟨W7.heap.size, 0, none⟩ = some (.int .i64 u1) := kept_a1 k107 hb10
  have k130 : W10.cell? ⟨W7.heap.size, 1, none⟩ = some (.int .i64 u2) := kept_a1 k108 hb10
  have k131 : W10.cell? ⟨W7.heap.size, 2, none⟩ = some (.int .i64 u3) := kept_a1 k109 hb10
  have k132 : W10.cell? ⟨W7.heap.size, 3, none⟩ = some (.int .i64 u4) := kept_a1 k110 hb10
  have k133 : W10.cell? ⟨W8.heap.size, 0, none⟩ = some (.int .i64 s1) := kept_a1 k111 hb10
  have k134 : W10.cell? ⟨W8.heap.size, 1, none⟩ = some (.int .i64 s2) := kept_a1 k112 hb10
  have k135 : W10.cell? ⟨W8.heap.size, 2, none⟩ = some (.int .i64 s3) := kept_a1 k113 hb10
  have k136 : W10.cell? ⟨W8.heap.size, 3, none⟩ = some (.int .i64 s4) := kept_a1 k114 hb10
  have k137 : W10.cell? ⟨W9.heap.size, 0, none⟩ = some (.int .i64 0) := kept1 (by simp [go_sem]) hb10
  have k138 : W10.cell? ⟨W9.heap.size, 1, none⟩ = some (.int .i64 0) := kept1 (by simp [go_sem]) hb10
  have k139 : W10.cell? ⟨W9.heap.size, 2, none⟩ = some (.int .i64 0) := kept1 (by simp [go_sem]) hb10
  have k140 : W10.cell? ⟨W9.heap.size, 3, none⟩ = some (.int .i64 0) := kept1 (by simp [go_sem]) hb10
  have lk115 : w.heap.size < W10.heap.size := block_lt_of_cell k115
  have lk119 : w.heap.size + 1 < W10.heap.size := block_lt_of_cell k119
  have lk123 : w.heap.size + 1 + 1 < W10.heap.size := block_lt_of_cell k123
  have lk125 : W6.heap.size < W10.heap.size := block_lt_of_cell k125
  have lk129 : W7.heap.size < W10.heap.size := block_lt_of_cell k129
  have lk133 : W8.heap.size < W10.heap.size := block_lt_of_cell k133
  have lk137 : W9.heap.size < W10.heap.size := block_lt_of_cell k137
  have hv10 : Below w.heap.size w W10 := bstep1 hv9 hb10
  clear hb10 hv9 k93 k94 k95 k96 k97 k98 k99 k100 k101 k102 k103 k104 k105 k106 k107 k108 k109 k110 k111 k112 k113 k114 lk93 lk97 lk101 lk103 lk107 lk111
  go_upto_region 15 with fail
  have k141 : ((W10.alloc (Obj.cells #[.int .i64 lo, .int .i64 hi] 44)).alloc (Obj.cells #[.int .i64 0, .int .i64 0, .int .i64 0, .int .i64 0, .int .i64 1] 70)).cell? ⟨w.heap.size, 0, none⟩ = some (.int .i64 a) := (cell_alloc (cell_alloc k115 _) _)
  have k142 : ((W10.alloc (Obj.cells #[.int .i64 lo, .int .i64 hi] 44)).alloc (Obj.cells #[.int .i64 0, .int .i64 0, .int .i64 0, .int .i64 0, .int .i64 1] 70)).cell? ⟨w.heap.size, 1, none⟩ = some (.int .i64 b) := (cell_alloc (cell_alloc k116 _) _)
  have k143 : ((W10.alloc (Obj.cells #[.int .i64 lo, .int .i64 hi] 44)).alloc (Obj.cells #[.int .i64 0, .int .i64 0, .int .i64 0, .int .i64 0, .int .i64 1] 70)).cell? ⟨w.heap.size, 2, none⟩ = some (.int .i64 c) := (cell_alloc (cell_alloc k117 _) _)
  have k144 : ((W10.alloc (Obj.cells #[.int .i64 lo, .int .i64 hi] 44)).alloc (Obj.cells #[.int .i64 0, .int .i64 0, .int .i64 0, .int .i64 0, .int .i64 1] 70)).cell? ⟨w.heap.size, 3, none⟩ = some (.int .i64 d) := (cell_alloc (cell_alloc k118 _) _)
  have k145 : ((W10.alloc (Obj.cells #[.int .i64 lo, .int .i64 hi] 44)).alloc (Obj.cells #[.int .i64 0, .int .i64 0, .int .i64 0, .int .i64 0, .int .i64 1] 70)).cell? ⟨w.heap.size + 1, 0, none⟩ = some (.int .i64 p) := (cell_alloc (cell_alloc k119 _) _)
  have k146 : ((W10.alloc (Obj.cells #[.int .i64 lo, .int .i64 hi] 44)).alloc (Obj.cells #[.int .i64 0, .int .i64 0, .int .i64 0, .int .i64 0, .int .i64 1] 70)).cell? ⟨w.heap.size + 1, 1, none⟩ = some (.int .i64 q) := (cell_alloc (cell_alloc k120 _) _)
  have k147 : ((W10.alloc (Obj.cells #[.int .i64 lo, .int .i64 hi] 44)).alloc (Obj.cells #[.int .i64 0, .int .i64 0, .int .i64 0, .int .i64 0, .int .i64 1] 70)).cell? ⟨w.heap.size + 1, 2, none⟩ = some (.int .i64 r) := (cell_alloc (cell_alloc k121 _) _)
  have k148 : ((W10.alloc (Obj.cells #[.int .i64 lo, .int .i64 hi] 44)).alloc (Obj.cells #[.int .i64 0, .int .i64 0, .int .i64 0, .int .i64 0, .int .i64 1] 70)).cell? ⟨w.heap.size + 1, 3, none⟩ = some (.int .i64 s) := (cell_alloc (cell_alloc k122 _) _)
  have k149 : ((W10.alloc (Obj.cells #[.int .i64 lo, .int .i64 hi] 44)).alloc (Obj.cells #[.int .i64 0, .int .i64 0, .int .i64 0, .int .i64 0, .int .i64 1] 70)).cell? ⟨w.heap.size + 1 + 1, 0, none⟩ = some (.int .i64 i) := (cell_alloc (cell_alloc k123 _) _)
  have k150 : ((W10.alloc (Obj.cells #[.int .i64 lo, .int .i64 hi] 44)).alloc (Obj.cells #[.int .i64 0, .int .i64 0, .int .i64 0, .int .i64 0, .int .i64 1] 70)).cell? ⟨w.heap.size + 1 + 1, 1, none⟩ = some (.int .i64 j) := (cell_alloc (cell_alloc k124 _) _)
  have k151 : ((W10.alloc (Obj.cells #[.int .i64 lo, .int .i64 hi] 44)).alloc (Obj.cells #[.int .i64 0, .int .i64 0, .int .i64 0, .int .i64 0, .int .i64 1] 70)).cell? ⟨W6.heap.size, 0, none⟩ = some (.int .i64 m1) := (cell_alloc (cell_alloc k125 _) _)
  have k152 : ((W10.alloc (Obj.cells #[.int .i64 lo, .int .i64 hi] 44)).alloc (Obj.cells #[.int .i64 0, .int .i64 0, .int .i64 0, .int .i64 0, .int .i64 1] 70)).cell? ⟨W6.heap.size, 1, none⟩ = some (.int .i64 m2) := (cell_alloc (cell_alloc k126 _) _)
  have k153 : ((W10.alloc (Obj.cells #[.int .i64 lo, .int .i64 hi] 44)).alloc (Obj.cells #[.int .i64 0, .int .i64 0, .int .i64 0, .int .i64 0, .int .i64 1] 70)).cell? ⟨W6.heap.size, 2, none⟩ = some (.int .i64 m3) := (cell_alloc (cell_alloc k127 _) _)
  have k154 : ((W10.alloc (Obj.cells #[.int .i64 lo, .int .i64 hi] 44)).alloc (Obj.cells #[.int .i64 0, .int .i64 0, .int .i64 0, .int .i64 0, .int .i64 1] 70)).cell? ⟨W6.heap.size, 3, none⟩ = some (.int .i64 m4) := (cell_alloc (cell_alloc k128 _) _)
  have k155 : ((W10.alloc (Obj.cells #[.int .i64 lo, .int .i64 hi] 44)).alloc (Obj.cells #[.int .i64 0, .int .i64 0, .int .i64 0, .int .i64 0, .int .i64 1] 70)).cell? ⟨W7.heap.size, 0, none⟩ = some (.int .i64 u1) := (cell_alloc (cell_alloc k129 _) _)
  have k156 : ((W10.alloc (Obj.cells #[.int .i64 lo, .int .i64 hi] 44)).alloc (Obj.cells #[.int .i64 0, .int .i64 0, .int .i64 0, .int .i64 0, .int .i64 1] 70)).cell? ⟨W7.heap.size, 1, none⟩ = some (.int .i64 u2) := (cell_alloc (cell_alloc k130 _) _)
  have k157 : ((W10.alloc (Obj.cells #[.int .i64 lo, .int .i64 hi] 44)).alloc (Obj.cells #[.int .i64 0, .int .i64 0, .int .i64 0, .int .i64 0, .int .i64 1] 70)).cell? ⟨W7.heap.size, 2, none⟩ = some (.int .i64 u3) := (cell_alloc (cell_alloc k131 _) _)
  have k158 : ((W10.alloc (Obj.cells #[.int .i64 lo, .int .i64 hi] 44)).alloc (Obj.cells #[.int .i64 0, .int .i64 0, .int .i64 0, .int .i64 0, .int .i64 1] 70)).cell? ⟨W7.heap.size, 3, none⟩ = some (.int .i64 u4) := (cell_alloc (cell_alloc k132 _) _)
  have k159 : ((W10.alloc (Obj.cells #[.int .i64 lo, .int .i64 hi] 44)).alloc (Obj.cells #[.int .i64 0, .int .i64 0, .int .i64 0, .int .i64 0, .int .i64 1] 70)).cell? ⟨W8.heap.size, 0, none⟩ = some (.int .i64 s1) := (cell_alloc (cell_alloc k133 _) _)
  have k160 : ((W10.alloc (Obj.cells #[.int .i64 lo, .int .i64 hi] 44)).alloc (Obj.cells #[.int .i64 0, .int .i64 0, .int .i64 0, .int .i64 0, .int .i64 1] 70)).cell? ⟨W8.heap.size, 1, none⟩ = some (.int .i64 s2) := (cell_alloc (cell_alloc k134 _) _)
  have k161 : ((W10.alloc (Obj.cells #[.int .i64 lo, .int .i64 hi] 44)).alloc (Obj.cells #[.int .i64 0, .int .i64 0, .int .i64 0, .int .i64 0, .int .i64 1] 70)).cell? ⟨W8.heap.size, 2, none⟩ = some (.int .i64 s3) := (cell_alloc (cell_alloc k135 _) _)
  have k162 : ((W10.alloc (Obj.cells #[.int .i64 lo, .int .i64 hi] 44)).alloc (Obj.cells #[.int .i64 0, .int .i64 0, .int .i64 0, .int .i64 0, .int .i64 1] 70)).cell? ⟨W8.heap.size, 3, none⟩ = some (.int .i64 s4) := (cell_alloc (cell_alloc k136 _) _)
  have k163 : ((W10.alloc (Obj.cells #[.int .i64 lo, .int .i64 hi] 44)).alloc (Obj.cells #[.int .i64 0, .int .i64 0, .int .i64 0, .int .i64 0, .int .i64 1] 70)).cell? ⟨W9.heap.size, 0, none⟩ = some (.int .i64 0) := (cell_alloc (cell_alloc k137 _) _)
  have k164 : ((W10.alloc (Obj.cells #[.int .i64 lo, .int .i64 hi] 44)).alloc (Obj.cells #[.int .i64 0, .int .i64 0, .int .i64 0, .int .i64 0, .int .i64 1] 70)).cell? ⟨W9.heap.size, 1, none⟩ = some (.int .i64 0) := (cell_alloc (cell_alloc k138 _) _)
  have k165 : ((W10.alloc (Obj.cells #[.int .i64 lo, .int .i64 hi] 44)).alloc (Obj.cells #[.int .i64 0, .int .i64 0, .int .i64 0, .int .i64 0, .int .i64 1] 70)).cell? ⟨W9.heap.size, 2, none⟩ = some (.int .i64 0) := (cell_alloc (cell_alloc k139 _) _)
  have k166 : ((W10.alloc (Obj.cells #[.int .i64 lo, .int .i64 hi] 44)).alloc (Obj.cells #[.int .i64 0, .int .i64 0, .int .i64 0, .int .i64 0, .int .i64 1] 70)).cell? ⟨W9.heap.size, 3, none⟩ = some (.int .i64 0) := (cell_alloc (cell_alloc k140 _) _)
  have k167 : ((W10.alloc (Obj.cells #[.int .i64 lo, .int .i64 hi] 44)).alloc (Obj.cells #[.int .i64 0, .int .i64 0, .int .i64 0, .int .i64 0, .int .i64 1] 70)).cell? ⟨W10.heap.size, 0, none⟩ = some (.int .i64 lo) := by simp [go_sem]
  have k168 : ((W10.alloc (Obj.cells #[.int .i64 lo, .int .i64 hi] 44)).alloc (Obj.cells #[.int .i64 0, .int .i64 0, .int .i64 0, .int .i64 0, .int .i64 1] 70)).cell? ⟨W10.heap.size, 1, none⟩ = some (.int .i64 hi) := by simp [go_sem]
  have k169 : ((W10.alloc (Obj.cells #[.int .i64 lo, .int .i64 hi] 44)).alloc (Obj.cells #[.int .i64 0, .int .i64 0, .int .i64 0, .int .i64 0, .int .i64 1] 70)).cell? ⟨W10.heap.size + 1, 0, none⟩ = some (.int .i64 0) := by simp [go_sem]
  have k170 : ((W10.alloc (Obj.cells #[.int .i64 lo, .int .i64 hi] 44)).alloc (Obj.cells #[.int .i64 0, .int .i64 0, .int .i64 0, .int .i64 0, .int .i64 1] 70)).cell? ⟨W10.heap.size + 1, 1, none⟩ = some (.int .i64 0) := by simp [go_sem]
  have k171 : ((W10.alloc (Obj.cells #[.int .i64 lo, .int .i64 hi] 44)).alloc (Obj.cells #[.int .i64 0, .int .i64 0, .int .i64 0, .int .i64 0, .int .i64 1] 70)).cell? ⟨W10.heap.size + 1, 2, none⟩ = some (.int .i64 0) := by simp [go_sem]
  have k172 : ((W10.alloc (Obj.cells #[.int .i64 lo, .int .i64 hi] 44)).alloc (Obj.cells #[.int .i64 0, .int .i64 0, .int .i64 0, .int .i64 0, .int .i64 1] 70)).cell? ⟨W10.heap.size + 1, 3, none⟩ = some (.int .i64 0) := by simp [go_sem]
  have k173 : ((W10.alloc (Obj.cells #[.int .i64 lo, .int .i64 hi] 44)).alloc (Obj.cells #[.int .i64 0, .int .i64 0, .int .i64 0, .int .i64 0, .int .i64 1] 70)).cell? ⟨W10.heap.size + 1, 4, none⟩ = some (.int .i64 1) := by simp [go_sem]
  have lk141 : w.heap.size < ((W10.alloc (Obj.cells #[.int .i64 lo, .int .i64 hi] 44)).alloc (Obj.cells #[.int .i64 0, .int .i64 0, .int .i64 0, .int .i64 0, .int .i64 1] 70)).heap.size := block_lt_of_cell k141
  have lk145 : w.heap.size + 1 < ((W10.alloc (Obj.cells #[.int .i64 lo, .int .i64 hi] 44)).alloc (Obj.cells #[.int .i64 0, .int .i64 0, .int .i64 0, .int .i64 0, .int .i64 1] 70)).heap.size := block_lt_of_cell k145
  have lk149 : w.heap.size + 1 + 1 < ((W10.alloc (Obj.cells #[.int .i64 lo, .int .i64 hi] 44)).alloc (Obj.cells #[.int .i64 0, .int .i64 0, .int .i64 0, .int .i64 0, .int .i64 1] 70)).heap.size := block_lt_of_cell k149
  have lk151 : W6.heap.size < ((W10.alloc (Obj.cells #[.int .i64 lo, .int .i64 hi] 44)).alloc (Obj.cells #[.int .i64 0, .int .i64 0, .int .i64 0, .int .i64 0, .int .i64 1] 70)).heap.size := block_lt_of_cell k151
  have lk155 : W7.heap.size < ((W10.alloc (Obj.cells #[.int .i64 lo, .int .i64 hi] 44)).alloc (Obj.cells #[.int .i64 0, .int .i64 0, .int .i64 0, .int .i64 0, .int .i64 1] 70)).heap.size := block_lt_of_cell k155
  have lk159 : W8.heap.size < ((W10.alloc (Obj.cells #[.int .i64 lo, .int .i64 hi] 44)).alloc (Obj.cells #[.int .i64 0, .int .i64 0, .int .i64 0, .int .i64 0, .int .i64 1] 70)).heap.size := block_lt_of_cell k159
  have lk163 : W9.heap.size < ((W10.alloc (Obj.cells #[.int .i64 lo, .int .i64 hi] 44)).alloc (Obj.cells #[.int .i64 0, .int .i64 0, .int .i64 0, .int .i64 0, .int .i64 1] 70)).heap.size := block_lt_of_cell k163
  have lk167 : W10.heap.size < ((W10.alloc (Obj.cells #[.int .i64 lo, .int .i64 hi] 44)).alloc (Obj.cells #[.int .i64 0, .int .i64 0, .int .i64 0, .int .i64 0, .int .i64 1] 70)).heap.size := block_lt_of_cell k167
  have lk169 : W10.heap.size + 1 < ((W10.alloc (Obj.cells #[.int .i64 lo, .int .i64 hi] 44)).alloc (Obj.cells #[.int .i64 0, .int .i64 0, .int .i64 0, .int .i64 0, .int .i64 1] 70)).heap.size := block_lt_of_cell k169
  have hv11 : Below w.heap.size w ((W10.alloc (Obj.cells #[.int .i64 lo, .int .i64 hi] 44)).alloc (Obj.cells #[.int .i64 0, .int .i64 0, .int .i64 0, .int .i64 0, .int .i64 1] 70)) := (below_alloc (below_alloc hv10 _) _)
  clear hv10 k115 k116 k117 k118 k119 k120 k121 k122 k123 k124 k125 k126 k127 k128 k129 k130 k131 k132 k133 k134 k135 k136 k137 k138 k139 k140 lk115 lk119 lk123 lk125 lk129 lk133 lk137
  generalize ((W10.alloc (Obj.cells #[.int .i64 lo, .int .i64 hi] 44)).alloc (Obj.cells #[.int .i64 0, .int .i64 0, .int .i64 0, .int .i64 0, .int .i64 1] 70)) = X11 at *
  have hTX : Hid (Tab X11.drew.heap.size X11.drew) := Lib.hid (Lib.tabBelow_of_tabIs (hT.out.on hv11.drew).here)
  go_cut [128] from 103 to 128 (fun s128 wx => s128 = .bool false ∧ wx.cell? ⟨w.heap.size, 0, none⟩ = some (.int .i64 a) ∧ wx.cell? ⟨w.heap.size, 1, none⟩ = some (.int .i64 b) ∧ wx.cell? ⟨w.heap.size, 2, none⟩ = some (.int .i64 c) ∧ wx.cell? ⟨w.heap.size, 3, none⟩ = some (.int .i64 d) ∧ wx.cell? ⟨w.heap.size + 1, 0, none⟩ = some (.int .i64 p) ∧ wx.cell? ⟨w.heap.size + 1, 1, none⟩ = some (.int .i64 q) ∧ wx.cell? ⟨w.heap.size + 1, 2, none⟩ = some (.int .i64 r) ∧ wx.cell? ⟨w.heap.size + 1, 3, none⟩ = some (.int .i64 s) ∧ wx.cell? ⟨w.heap.size + 1 + 1, 0, none⟩ = some (.int .i64 i) ∧ wx.cell? ⟨w.heap.size + 1 + 1, 1, none⟩ = some (.int .i64 j) ∧ wx.cell? ⟨W6.heap.size, 0, none⟩ = some (.int .i64 m1) ∧ wx.cell? ⟨W6.heap.size, 1, none⟩ = some (.int .i64 m2) ∧ wx.cell? ⟨W6.heap.size, 2, none⟩ = some (.int .i64 m3) ∧ wx.cell? ⟨W6.heap.size, 3, none⟩ = some (.int .i64 m4) ∧ wx.cell? ⟨W7.heap.size, 0, none⟩ = some (.int .i64 u1) ∧ wx.cell? ⟨W7.heap.size, 1, none⟩ = some (.int .i64 u2) ∧ wx.cell? ⟨W7.heap.size, 2, none⟩ = some (.int .i64 u3) ∧ wx.cell? ⟨W7.heap.size, 3, none⟩ = some (.int .i64 u4) ∧ wx.cell? ⟨W8.heap.size, 0, none⟩ = some (.int .i64 s1) ∧ wx.cell? ⟨W8.heap.size, 1, none⟩ = some (.int .i64 s2) ∧ wx.cell? ⟨W8.heap.size, 2, none⟩ = some (.int .i64 s3) ∧ wx.cell? ⟨W8.heap.size, 3, none⟩ = some (.int .i64 s4) ∧ wx.cell? ⟨W9.heap.size, 0, none⟩ = some (.int .i64 0) ∧ wx.cell? ⟨W9.heap.size, 1, none⟩ = some (.int .i64 0) ∧ wx.cell? ⟨W9.heap.size, 2, none⟩ = some (.int .i64 0) ∧ wx.cell? ⟨W9.heap.size, 3, none⟩ = some (.int .i64 0) ∧ wx.cell? ⟨W10.heap.size, 0, none⟩ = some (.int .i64 lo) ∧ wx.cell? ⟨W10.heap.size, 1, none⟩ = some (.int .i64 hi) ∧ wx.cell? ⟨W10.heap.size + 1, 0, none⟩ = some (.int .i64 0) ∧ wx.cell? ⟨W10.heap.size + 1, 1, none⟩ = some (.int .i64 0) ∧ wx.cell? ⟨W10.heap.size + 1, 2, none⟩ = some (.int .i64 0) ∧ wx.cell? ⟨W10.heap.size + 1, 3, none⟩ = some (.int .i64 0) ∧ wx.cell? ⟨W10.heap.size + 1, 4, none⟩ = some (.int .i64 1) ∧ Below w.heap.size w wx)
  case first =>
    have S0 : X11.drew.cell? ⟨w.heap.size, 0, none⟩ = some (.int .i64 a) ∧ X11.drew.cell? ⟨w.heap.size, 1, none⟩ = some (.int .i64 b) ∧ X11.drew.cell? ⟨w.heap.size, 2, none⟩ = some (.int .i64 c) ∧ X11.drew.cell? ⟨w.heap.size, 3, none⟩ = some (.int .i64 d) ∧ X11.drew.cell? ⟨w.heap.size + 1, 0, none⟩ = some (.int .i64 p) ∧ X11.drew.cell? ⟨w.heap.size + 1, 1, none⟩ = some (.int .i64 q) ∧ X11.drew.cell? ⟨w.heap.size + 1, 2, none⟩ = some (.int .i64 r) ∧ X11.drew.cell? ⟨w.heap.size + 1, 3, none⟩ = some (.int .i64 s) ∧ X11.drew.cell? ⟨w.heap.size + 1 + 1, 0, none⟩ = some (.int .i64 i) ∧ X11.drew.cell? ⟨w.heap.size + 1 + 1, 1, none⟩ = some (.int .i64 j) ∧ X11.drew.cell? ⟨W6.heap.size, 0, none⟩ = some (.int .i64 m1) ∧ X11.drew.cell? ⟨W6.heap.size, 1, none⟩ = some (.int .i64 m2) ∧ X11.drew.cell? ⟨W6.heap.size, 2, none⟩ = some (.int .i64 m3) ∧ X11.drew.cell? ⟨W6.heap.size, 3, none⟩ = some (.int .i64 m4) ∧ X11.drew.cell? ⟨W7.heap.size, 0, none⟩ = some (.int .i64 u1) ∧ X11.drew.cell? ⟨W7.heap.size, 1, none⟩ = some (.int .i64 u2) ∧ X11.drew.cell? ⟨W7.heap.size, 2, none⟩ = some (.int .i64 u3) ∧ X11.drew.cell? ⟨W7.heap.size, 3, none⟩ = some (.int .i64 u4) ∧ X11.drew.cell? ⟨W8.heap.size, 0, none⟩ = some (.int .i64 s1) ∧ X11.drew.cell? ⟨W8.heap.size, 1, none⟩ = some (.int .i64 s2) ∧ X11.drew.cell? ⟨W8.heap.size, 2, none⟩ = some (.int .i64 s3) ∧ X11.drew.cell? ⟨W8.heap.size, 3, none⟩ = some (.int .i64 s4) ∧ X11.drew.cell? ⟨W9.heap.size, 0, none⟩ = some (.int .i64 0) ∧ X11.drew.cell? ⟨W9.heap.size, 1, none⟩ = some (.int .i64 0) ∧ X11.drew.cell? ⟨W9.heap.size, 2, none⟩ = some (.int .i64 0) ∧ X11.drew.cell? ⟨W9.heap.size, 3, none⟩ = some (.int .i64 0) ∧ X11.drew.cell? ⟨W10.heap.size, 0, none⟩ = some (.int .i64 lo) ∧ X11.drew.cell? ⟨W10.heap.size, 1, none⟩ = some (.int .i64 hi) ∧ X11.drew.cell? ⟨W10.heap.size + 1, 0, none⟩ = some (.int .i64 0) ∧ X11.drew.cell? ⟨W10.heap.size + 1, 1, none⟩ = some (.int .i64 0) ∧ X11.drew.cell? ⟨W10.heap.size + 1, 2, none⟩ = some (.int .i64 0) ∧ X11.drew.cell? ⟨W10.heap.size + 1, 3, none⟩ = some (.int .i64 0) ∧ X11.drew.cell? ⟨W10.heap.size + 1, 4, none⟩ = some (.int .i64 1) ∧ Below w.heap.size w X11.drew := ⟨by assumption, by assumption, by assumption, by assumption, by assumption, by assumption, by assumption, by assumption, by assumption, by assumption, by assumption, by assumption, by assumption, by assumption, by assumption, by assumption, by assumption, by assumption, by assumption, by assumption, by assumption, by assumption, by assumption, by assumption, by assumption, by assumption, by assumption, by assumption, by assumption, by assumption, by assumption, by assumption, by assumption, hv11.drew⟩
    go_region_held3 (fun w' => w'.cell? ⟨w.heap.size, 0, none⟩ = some (.int .i64 a) ∧ w'.cell? ⟨w.heap.size, 1, none⟩ = some (.int .i64 b) ∧ w'.cell? ⟨w.heap.size, 2, none⟩ = some (.int .i64 c) ∧ w'.cell? ⟨w.heap.size, 3, none⟩ = some (.int .i64 d) ∧ w'.cell? ⟨w.heap.size + 1, 0, none⟩ = some (.int .i64 p) ∧ w'.cell? ⟨w.heap.size + 1, 1, none⟩ = some (.int .i64 q) ∧ w'.cell? ⟨w.heap.size + 1, 2, none⟩ = some (.int .i64 r) ∧ w'.cell? ⟨w.heap.size + 1, 3, none⟩ = some (.int .i64 s) ∧ w'.cell? ⟨w.heap.size + 1 + 1, 0, none⟩ = some (.int .i64 i) ∧ w'.cell? ⟨w.heap.size + 1 + 1, 1, none⟩ = some (.int .i64 j) ∧ w'.cell? ⟨W6.heap.size, 0, none⟩ = some (.int .i64 m1) ∧ w'.cell? ⟨W6.heap.size, 1, none⟩ = some (.int .i64 m2) ∧ w'.cell? ⟨W6.heap.size, 2, none⟩ = some (.int .i64 m3) ∧ w'.cell? ⟨W6.heap.size, 3, none⟩ = some (.int .i64 m4) ∧ w'.cell? ⟨W7.heap.size, 0, none⟩ = some (.int .i64 u1) ∧ w'.cell? ⟨W7.heap.size, 1, none⟩ = some (.int .i64 u2) ∧ w'.cell? ⟨W7.heap.size, 2, none⟩ = some (.int .i64 u3) ∧ w'.cell? ⟨W7.heap.size, 3, none⟩ = some (.int .i64 u4) ∧ w'.cell? ⟨W8.heap.size, 0, none⟩ = some (.int .i64 s1) ∧ w'.cell? ⟨W8.heap.size, 1, none⟩ = some (.int .i64 s2) ∧ w'.cell? ⟨W8.heap.size, 2, none⟩ = some (.int .i64 s3) ∧ w'.cell? ⟨W8.heap.size, 3, none⟩ = some (.int .i64 s4) ∧ w'.cell? ⟨W9.heap.size, 0, none⟩ = some (.int .i64 0) ∧ w'.cell? ⟨W9.heap.size, 1, none⟩ = some (.int .i64 0) ∧ w'.cell? ⟨W9.heap.size, 2, none⟩ = some (.int .i64 0) ∧ w'.cell? ⟨W9.heap.size, 3, none⟩ = some (.int .i64 0) ∧ w'.cell? ⟨W10.heap.size, 0, none⟩ = some (.int .i64 lo) ∧ w'.cell? ⟨W10.heap.size, 1, none⟩ = some (.int .i64 hi) ∧ w'.cell? ⟨W10.heap.size + 1, 0, none⟩ = some (.int .i64 0) ∧ w'.cell? ⟨W10.heap.size + 1, 1, none⟩ = some (.int .i64 0) ∧ w'.cell? ⟨W10.heap.size + 1, 2, none⟩ = some (.int .i64 0) ∧ w'.cell? ⟨W10.heap.size + 1, 3, none⟩ = some (.int .i64 0) ∧ w'.cell? ⟨W10.heap.size + 1, 4, none⟩ = some (.int .i64 1) ∧ Below w.heap.size w w')
      (first | with_reducible exact S0 | with_reducible exact keep33 (by assumption) hbp | with_reducible exact keep33 (by assumption) (drewN_below _))
      (first
        | (go_at_call 63
           refine (KM.out _).mono ?_
           rintro e wp ⟨he, hbp⟩
           subst he)
        | (go_at_call 62
           refine (as_yes _ _ _ _ _ _).mono ?_
           rintro e wp ⟨he, hbp⟩
           subst he)
        | (go_at_call 64
           refine (KU.out _).mono ?_
           rintro e wp ⟨he, hbp⟩
           subst he)
        | (go_at_call 65
           refine (KS.out _).mono ?_
           rintro e wp ⟨he, hbp⟩
           subst he))
    all_goals
      go_split_ands
      try go_split_ands
      go_wp2_with fail
      go_meet
      exact ⟨rfl, by with_reducible assumption, by with_reducible assumption, by with_reducible assumption, by with_reducible assumption, by with_reducible assumption, by with_reducible assumption, by with_reducible assumption, by with_reducible assumption, by with_reducible assumption, by with_reducible assumption, by with_reducible assumption, by with_reducible assumption, by with_reducible assumption, by with_reducible assumption, by with_reducible assumption, by with_reducible assumption, by with_reducible assumption, by with_reducible assumption, by with_reducible assumption, by with_reducible assumption, by with_reducible assumption, by with_reducible assumption, by with_reducible assumption, by with_reducible assumption, by with_reducible assumption, by with_reducible assumption, by with_reducible assumption, by with_reducible assumption, by with_reducible assumption, by with_reducible assumption, by with_reducible assumption, by with_reducible assumption, by with_reducible assumption, by with_reducible assumption⟩
  case rest =>
    generalize wc = V12 at hcut ⊢
    clear wc
    obtain ⟨rfl, k174, k175, k176, k177, k178, k179, k180, k181, k182, k183, k184, k185, k186, k187, k188, k189, k190, k191, k192, k193, k194, k195, k196, k197, k198, k199, k200, k201, k202, k203, k204, k205, k206, hv12⟩ := hcut
    clear hv11 k141 k142 k143 k144 k145 k146 k147 k148 k149 k150 k151 k152 k153 k154 k155 k156 k157 k158 k159 k160 k161 k162 k163 k164 k165 k166 k167 k168 k169 k170 k171 k172 k173 lk141 lk145 lk149 lk151 lk155 lk159 lk163 lk167 lk169
    have lk174 : w.heap.size < V12.heap.size := block_lt_of_cell k174
    have lk178 : w.heap.size + 1 < V12.heap.size := block_lt_of_cell k178
    have lk182 : w.heap.size + 1 + 1 < V12.heap.size := block_lt_of_cell k182
    have lk184 : W6.heap.size < V12.heap.size := block_lt_of_cell k184
    have lk188 : W7.heap.size < V12.heap.size := block_lt_of_cell k188
    have lk192 : W8.heap.size < V12.heap.size := block_lt_of_cell k192
    have lk196 : W9.heap.size < V12.heap.size := block_lt_of_cell k196
    have lk200 : W10.heap.size < V12.heap.size := block_lt_of_cell k200
    have lk202 : W10.heap.size + 1 < V12.heap.size := block_lt_of_cell k202
    clear k178 k179 k180 k181 lk178
    clear k184 k185 k186 k187 lk184
    clear k188 k189 k190 k191 lk188
    clear k192 k193 k194 k195 lk192
    go_wp2_with fail
    refine (as_yes 0 0 0 0 1 _).mono ?_
    rintro e W13 ⟨rfl, hb13⟩
    have k207 : W13.cell? ⟨w.heap.size, 0, none⟩ = some (.int .i64 a) := kept1 k174 hb13
    have k208 : W13.cell? ⟨w.heap.size, 1, none⟩ = some (.int .i64 b) := kept1 k175 hb13
    have k209 : W13.cell? ⟨w.heap.size, 2, none⟩ = some (.int .i64 c) := kept1 k176 hb13
    have k210 : W13.cell? ⟨w.heap.size, 3, none⟩ = some (.int .i64 d) := kept1 k177 hb13
    have k211 : W13.cell? ⟨w.heap.size + 1 + 1, 0, none⟩ = some (.int .i64 i) := kept1 k182 hb13
    have k212 : W13.cell? ⟨w.heap.size + 1 + 1, 1, none⟩ = some (.int .i64 j) := kept1 k183 hb13
    have k213 : W13.cell? ⟨W9.heap.size, 0, none⟩ = some (.int .i64 0) := kept1 k196 hb13
    have k214 : W13.cell? ⟨W9.heap.size, 1, none⟩ = some (.int .i64 0) := kept1 k197 hb13
    have k215 : W13.cell? ⟨W9.heap.size, 2, none⟩ = some (.int .i64 0) := kept1 k198 hb13
    have k216 : W13.cell? ⟨W9.heap.size, 3, none⟩ = some (.int .i64 0) := kept1 k199 hb13
    have k217 : W13.cell? ⟨W10.heap.size, 0, none⟩ = some (.int .i64 lo) := kept1 k200 hb13
    have k218 : W13.cell? ⟨W10.heap.size, 1, none⟩ = some (.int .i64 hi) := kept1 k201 hb13
    have k219 : W13.cell? ⟨W10.heap.size + 1, 0, none⟩ = some (.int .i64 0) := kept1 k202 hb13
    have k220 : W13.cell? ⟨W10.heap.size + 1, 1, none⟩ = some (.int .i64 0) := kept1 k203 hb13
    have k221 : W13.cell? ⟨W10.heap.size + 1, 2, none⟩ = some (.int .i64 0) := kept1 k204 hb13
    have k222 : W13.cell? ⟨W10.heap.size + 1, 3, none⟩ = some (.int .i64 0) := kept1 k205 hb13
    have k223 : W13.cell? ⟨W10.heap.size + 1, 4, none⟩ = some (.int .i64 1) := kept1 k206 hb13
    have lk207 : w.heap.size < W13.heap.size := block_lt_of_cell k207
    have lk211 : w.heap.size + 1 + 1 < W13.heap.size := block_lt_of_cell k211
    have lk213 : W9.heap.size < W13.heap.size := block_lt_of_cell k213
    have lk217 : W10.heap.size < W13.heap.size := block_lt_of_cell k217
    have lk219 : W10.heap.size + 1 < W13.heap.size := block_lt_of_cell k219
    have hv13 : Below w.heap.size w W13 := bstep0 hv12 hb13
    clear hb13 hv12 k174 k175 k176 k177 k182 k183 k196 k197 k198 k199 k200 k201 k202 k203 k204 k205 k206 lk174 lk182 lk196 lk200 lk202
    clear k211 k212 lk211
    clear k213 k214 k215 k216 lk213
    clear k219 k220 k221 k222 k223 lk219
    go_wp2_with fail
    refine (KV.out _).mono ?_
    rintro e W14 ⟨rfl, hb14⟩
    have k224 : W14.cell? ⟨w.heap.size, 0, none⟩ = some (.int .i64 a) := kept1 k207 hb14
    have k225 : W14.cell? ⟨w.heap.size, 1, none⟩ = some (.int .i64 b) := kept1 k208 hb14
    have k226 : W14.cell? ⟨w.heap.size, 2, none⟩ = some (.int .i64 c) := kept1 k209 hb14
    have k227 : W14.cell? ⟨w.heap.size, 3, none⟩ = some (.int .i64 d) := kept1 k210 hb14
    have k228 : W14.cell? ⟨W10.heap.size, 0, none⟩ = some (.int .i64 lo) := kept1 k217 hb14
    have k229 : W14.cell? ⟨W10.heap.size, 1, none⟩ = some (.int .i64 hi) := kept1 k218 hb14
    have lk224 : w.heap.size < W14.heap.size := block_lt_of_cell k224
    have lk228 : W10.heap.size < W14.heap.size := block_lt_of_cell k228
    have hv14 : Below w.heap.size w W14 := bstep0 hv13 hb14
    clear hb14 hv13 k207 k208 k209 k210 k217 k218 lk207 lk217
    go_wp2_with fail
    refine (sanity_tab hT _ (below_alloc hv14 _)).mono ?_
    rintro e W15 ⟨rfl, hb15⟩
    have k230 : W15.cell? ⟨w.heap.size, 0, none⟩ = some (.int .i64 a) := kept_a1 k224 hb15
    have k231 : W15.cell? ⟨w.heap.size, 1, none⟩ = some (.int .i64 b) := kept_a1 k225 hb15
    have k232 : W15.cell? ⟨w.heap.size, 2, none⟩ = some (.int .i64 c) := kept_a1 k226 hb15
    have k233 : W15.cell? ⟨w.heap.size, 3, none⟩ = some (.int .i64 d) := kept_a1 k227 hb15
    have k234 : W15.cell? ⟨W10.heap.size, 0, none⟩ = some (.int .i64 lo) := kept_a1 k228 hb15
    have k235 : W15.cell? ⟨W10.heap.size, 1, none⟩ = some (.int .i64 hi) := kept_a1 k229 hb15
    have k236 : W15.cell? ⟨W14.heap.size, 0, none⟩ = some (.int .i64 lo) := kept1 (by simp [go_sem]) hb15
    have k237 : W15.cell? ⟨W14.heap.size, 1, none⟩ = some (.int .i64 hi) := kept1 (by simp [go_sem]) hb15
    have lk230 : w.heap.size < W15.heap.size := block_lt_of_cell k230
    have lk234 : W10.heap.size < W15.heap.size := block_lt_of_cell k234
    have lk236 : W14.heap.size < W15.heap.size := block_lt_of_cell k236
    have hv15 : Below w.heap.size w W15 := bstep1 hv14 hb15
    clear hb15 hv14 k224 k225 k226 k227 k228 k229 lk224 lk228
    go_wp2
    go_ret
    exact ⟨by first | rfl | simp, (by repeat (first | with_reducible exact Below.refl _ _ | with_reducible assumption | refine below_drewN ?_ _ | refine Below.drew ?_ | refine Below.alloc ?_ (by first | (simp; done) | (simp; omega) | omega) _ | refine Below.setCell ?_ (by first | (simp; done) | (simp; omega) | omega) _ | refine Below.trans ?_ (Below.mono (by assumption) (by first | (simp; done) | (simp; omega) | omega))))⟩

end Go.Proofs.YtffabmojbelaaaaDoor
