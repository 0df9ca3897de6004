/- The law ExactRanges: an interval that is not valid. -/
import Derived.Test.YtffabmojbelaaaaDoorSz
import Derived.Test.YtffabmojbelaaaaDoorKr
namespace Go.Proofs.YtffabmojbelaaaaDoor
open Go.RowKit Go.Shelf

set_option maxHeartbeats 800000 in
theorem as_yes (a b c d f : Int) (w : World) :
    Calls Tryd.prog 62 #[.agg #[.int .i64 a, .int .i64 b, .int .i64 c, .int .i64 d], .int .i64 f, .agg #[.int .i64 a, .int .i64 b, .int .i64 c, .int .i64 d, .int .i64 f]] w fun e w' => e = .returned (.bool true) ∧ Below w.heap.size w w' := by
  go_enter Tryd.func62, Tryd.ntmps62
  go_wp2
  go_ret
  exact ⟨rfl, (by repeat (first | with_reducible exact Below.refl _ _ | with_reducible assumption | refine below_drewN ?_ _ | refine Below.drew ?_ | refine Below.alloc ?_ (by first | (simp; done) | (simp; omega) | omega) _ | refine Below.setCell ?_ (by first | (simp; done) | (simp; omega) | omega) _ | refine Below.trans ?_ (Below.mono (by assumption) (by first | (simp; done) | (simp; omega) | omega))))⟩

set_option maxRecDepth 100000 in
set_option maxHeartbeats 8000000 in
theorem ranges_FqqF (a b c d p q r s i j : Int) (t2 : Bool) (t3 : Bool) (KX : Hid (∀ W : World, Calls Tryd.prog 50 #[.agg #[.int .i64 a, .int .i64 b, .int .i64 c, .int .i64 d]] W fun e w' => e = .returned (.bool false) ∧ Below W.heap.size W w')) (KY : Hid (∀ W : World, Calls Tryd.prog 50 #[.agg #[.int .i64 p, .int .i64 q, .int .i64 r, .int .i64 s]] W fun e w' => e = .returned (.bool t2) ∧ Below W.heap.size W w')) (KA : Hid (∀ W : World, Calls Tryd.prog 22 #[.agg #[.int .i64 i, .int .i64 j]] W fun e w' => e = .returned (.bool t3) ∧ Below W.heap.size W w')) (EX : Hid (∀ W : World, Calls Tryd.prog 54 #[.agg #[.int .i64 a, .int .i64 b, .int .i64 c, .int .i64 d]] W fun e w' => e = .returned (.bool false) ∧ Below W.heap.size W w')) (EH : Hid (∀ W : World, Calls Tryd.prog 55 #[.agg #[.int .i64 a, .int .i64 b, .int .i64 c, .int .i64 d], .agg #[.int .i64 i, .int .i64 j]] W fun e w' => e = .returned (.bool false) ∧ Below W.heap.size W w')) (EM : Hid (∀ W : World, Calls Tryd.prog 57 #[.agg #[.int .i64 a, .int .i64 b, .int .i64 c, .int .i64 d], .agg #[.int .i64 p, .int .i64 q, .int .i64 r, .int .i64 s]] W fun e' w' => e' = .returned (.tuple #[.agg #[.int .i64 0, .int .i64 0, .int .i64 0, .int .i64 0], .int .i64 1]) ∧ Below W.heap.size W w')) (EU : Hid (∀ W : World, Calls Tryd.prog 58 #[.agg #[.int .i64 a, .int .i64 b, .int .i64 c, .int .i64 d], .agg #[.int .i64 p, .int .i64 q, .int .i64 r, .int .i64 s]] W fun e w' => e = .returned (.tuple #[.agg #[.int .i64 0, .int .i64 0, .int .i64 0, .int .i64 0], .int .i64 1]) ∧ Below W.heap.size W w')) (ES : Hid (∀ W : World, Calls Tryd.prog 59 #[.agg #[.int .i64 a, .int .i64 b, .int .i64 c, .int .i64 d], .agg #[.int .i64 p, .int .i64 q, .int .i64 r, .int .i64 s]] W fun e w' => e = .returned (.tuple #[.agg #[.int .i64 0, .int .i64 0, .int .i64 0, .int .i64 0], .int .i64 1]) ∧ Below W.heap.size W w')) (ET : Hid (∀ W : World, Calls Tryd.prog 60 #[.agg #[.int .i64 a, .int .i64 b, .int .i64 c, .int .i64 d], .agg #[.int .i64 i, .int .i64 j]] W fun e w' => e = .returned (.tuple #[.agg #[.int .i64 0, .int .i64 0, .int .i64 0, .int .i64 0], .int .i64 1]) ∧ Below W.heap.size W w')) (EV : Hid (∀ W : World, Calls Tryd.prog 61 #[.agg #[.int .i64 a, .int .i64 b, .int .i64 c, .int .i64 d]] W fun e w' => e = .returned (.tuple #[.agg #[.int .i64 0, .int .i64 0], .int .i64 1]) ∧ Below W.heap.size W w')) (w : World) (hT : Hid (Tab w.heap.size w)) :
    Calls Tryd.prog 9 #[.agg #[.int .i64 a, .int .i64 b, .int .i64 c, .int .i64 d], .agg #[.int .i64 p, .int .i64 q, .int .i64 r, .int .i64 s], .agg #[.int .i64 i, .int .i64 j]] w fun e w' => e = .returned (.bool true) ∧ Below w.heap.size w w' := by
  go_enter Tryd.func9, Tryd.ntmps9
  go_wp2_with fail
  refine (KX.out _).mono ?_
  rintro e W1 ⟨rfl, hb1⟩
  have k1 : W1.cell? ⟨w.heap.size, 0, none⟩ = some (.int .i64 a) := kept1 (by simp [go_sem]) hb1
  have k2 : W1.cell? ⟨w.heap.size, 1, none⟩ = some (.int .i64 b) := kept1 (by simp [go_sem]) hb1
  have k3 : W1.cell? ⟨w.heap.size, 2, none⟩ = some (.int .i64 c) := kept1 (by simp [go_sem]) hb1
  have k4 : W1.cell? ⟨w.heap.size, 3, none⟩ = some (.int .i64 d) := kept1 (by simp [go_sem]) hb1
  have k5 : W1.cell? ⟨w.heap.size + 1, 0, none⟩ = some (.int .i64 p) := kept1 (by simp [go_sem]) hb1
  have k6 : W1.cell? ⟨w.heap.size + 1, 1, none⟩ = some (.int .i64 q) := kept1 (by simp [go_sem]) hb1
  have k7 : W1.cell? ⟨w.heap.size + 1, 2, none⟩ = some (.int .i64 r) := kept1 (by simp [go_sem]) hb1
  have k8 : W1.cell? ⟨w.heap.size + 1, 3, none⟩ = some (.int .i64 s) := kept1 (by simp [go_sem]) hb1
  have k9 : W1.cell? ⟨w.heap.size + 1 + 1, 0, none⟩ = some (.int .i64 i) := kept1 (by simp [go_sem]) hb1
  have k10 : W1.cell? ⟨w.heap.size + 1 + 1, 1, none⟩ = some (.int .i64 j) := kept1 (by simp [go_sem]) hb1
  have lk1 : w.heap.size < W1.heap.size := block_lt_of_cell k1
  have lk5 : w.heap.size + 1 < W1.heap.size := block_lt_of_cell k5
  have lk9 : w.heap.size + 1 + 1 < W1.heap.size := block_lt_of_cell k9
  have hv1 : Below w.heap.size w W1 := bstep3 (Below.refl _ _) hb1
  clear hb1  
  go_wp2_with fail
  refine (KY.out _).mono ?_
  rintro e W2 ⟨rfl, hb2⟩
  have k11 : W2.cell? ⟨w.heap.size, 0, none⟩ = some (.int .i64 a) := kept1 k1 hb2
  have k12 : W2.cell? ⟨w.heap.size, 1, none⟩ = some (.int .i64 b) := kept1 k2 hb2
  have k13 : W2.cell? ⟨w.heap.size, 2, none⟩ = some (.int .i64 c) := kept1 k3 hb2
  have k14 : W2.cell? ⟨w.heap.size, 3, none⟩ = some (.int .i64 d) := kept1 k4 hb2
  have k15 : W2.cell? ⟨w.heap.size + 1, 0, none⟩ = some (.int .i64 p) := kept1 k5 hb2
  have k16 : W2.cell? ⟨w.heap.size + 1, 1, none⟩ = some (.int .i64 q) := kept1 k6 hb2
  have k17 : W2.cell? ⟨w.heap.size + 1, 2, none⟩ = some (.int .i64 r) := kept1 k7 hb2
  have k18 : W2.cell? ⟨w.heap.size + 1, 3, none⟩ = some (.int .i64 s) := kept1 k8 hb2
  have k19 : W2.cell? ⟨w.heap.size + 1 + 1, 0, none⟩ = some (.int .i64 i) := kept1 k9 hb2
  have k20 : W2.cell? ⟨w.heap.size + 1 + 1, 1, none⟩ = some (.int .i64 j) := kept1 k10 hb2
  have lk11 : w.heap.size < W2.heap.size := block_lt_of_cell k11
  have lk15 : w.heap.size + 1 < W2.heap.size := block_lt_of_cell k15
  have lk19 : w.heap.size + 1 + 1 < W2.heap.size := block_lt_of_cell k19
  have hv2 : Below w.heap.size w W2 := bstep0 hv1 hb2
  clear hb2 hv1 k1 k2 k3 k4 k5 k6 k7 k8 k9 k10 lk1 lk5 lk9
  go_wp2_with fail
  refine (KA.out _).mono ?_
  rintro e W3 ⟨rfl, hb3⟩
  have k21 : W3.cell? ⟨w.heap.size, 0, none⟩ = some (.int .i64 a) := kept1 k11 hb3
  have k22 : W3.cell? ⟨w.heap.size, 1, none⟩ = some (.int .i64 b) := kept1 k12 hb3
  have k23 : W3.cell? ⟨w.heap.size, 2, none⟩ = some (.int .i64 c) := kept1 k13 hb3
  have k24 : W3.cell? ⟨w.heap.size, 3, none⟩ = some (.int .i64 d) := kept1 k14 hb3
  have k25 : W3.cell? ⟨w.heap.size + 1, 0, none⟩ = some (.int .i64 p) := kept1 k15 hb3
  have k26 : W3.cell? ⟨w.heap.size + 1, 1, none⟩ = some (.int .i64 q) := kept1 k16 hb3
  have k27 : W3.cell? ⟨w.heap.size + 1, 2, none⟩ = some (.int .i64 r) := kept1 k17 hb3
  have k28 : W3.cell? ⟨w.heap.size + 1, 3, none⟩ = some (.int .i64 s) := kept1 k18 hb3
  have k29 : W3.cell? ⟨w.heap.size + 1 + 1, 0, none⟩ = some (.int .i64 i) := kept1 k19 hb3
  have k30 : W3.cell? ⟨w.heap.size + 1 + 1, 1, none⟩ = some (.int .i64 j) := kept1 k20 hb3
  have lk21 : w.heap.size < W3.heap.size := block_lt_of_cell k21
  have lk25 : w.heap.size + 1 < W3.heap.size := block_lt_of_cell k25
  have lk29 : w.heap.size + 1 + 1 < W3.heap.size := block_lt_of_cell k29
  have hv3 : Below w.heap.size w W3 := bstep0 hv2 hb3
  clear hb3 hv2 k11 k12 k13 k14 k15 k16 k17 k18 k19 k20 lk11 lk15 lk19
  go_wp2_with fail
  refine (EX.out _).mono ?_
  rintro e W4 ⟨rfl, hb4⟩
  have k31 : W4.cell? ⟨w.heap.size, 0, none⟩ = some (.int .i64 a) := kept1 k21 hb4
  have k32 : W4.cell? ⟨w.heap.size, 1, none⟩ = some (.int .i64 b) := kept1 k22 hb4
  have k33 : W4.cell? ⟨w.heap.size, 2, none⟩ = some (.int .i64 c) := kept1 k23 hb4
  have k34 : W4.cell? ⟨w.heap.size, 3, none⟩ = some (.int .i64 d) := kept1 k24 hb4
  have k35 : W4.cell? ⟨w.heap.size + 1, 0, none⟩ = some (.int .i64 p) := kept1 k25 hb4
  have k36 : W4.cell? ⟨w.heap.size + 1, 1, none⟩ = some (.int .i64 q) := kept1 k26 hb4
  have k37 : W4.cell? ⟨w.heap.size + 1, 2, none⟩ = some (.int .i64 r) := kept1 k27 hb4
  have k38 : W4.cell? ⟨w.heap.size + 1, 3, none⟩ = some (.int .i64 s) := kept1 k28 hb4
  have k39 : W4.cell? ⟨w.heap.size + 1 + 1, 0, none⟩ = some (.int .i64 i) := kept1 k29 hb4
  have k40 : W4.cell? ⟨w.heap.size + 1 + 1, 1, none⟩ = some (.int .i64 j) := kept1 k30 hb4
  have lk31 : w.heap.size < W4.heap.size := block_lt_of_cell k31
  have lk35 : w.heap.size + 1 < W4.heap.size := block_lt_of_cell k35
  have lk39 : w.heap.size + 1 + 1 < W4.heap.size := block_lt_of_cell k39
  have hv4 : Below w.heap.size w W4 := bstep0 hv3 hb4
  clear hb4 hv3 k21 k22 k23 k24 k25 k26 k27 k28 k29 k30 lk21 lk25 lk29
  go_wp2_with fail
  refine (EH.out _).mono ?_
  rintro e W5 ⟨rfl, hb5⟩
  have k41 : W5.cell? ⟨w.heap.size, 0, none⟩ = some (.int .i64 a) := kept1 k31 hb5
  have k42 : W5.cell? ⟨w.heap.size, 1, none⟩ = some (.int .i64 b) := kept1 k32 hb5
  have k43 : W5.cell? ⟨w.heap.size, 2, none⟩ = some (.int .i64 c) := kept1 k33 hb5
  have k44 : W5.cell? ⟨w.heap.size, 3, none⟩ = some (.int .i64 d) := kept1 k34 hb5
  have k45 : W5.cell? ⟨w.heap.size + 1, 0, none⟩ = some (.int .i64 p) := kept1 k35 hb5
  have k46 : W5.cell? ⟨w.heap.size + 1, 1, none⟩ = some (.int .i64 q) := kept1 k36 hb5
  have k47 : W5.cell? ⟨w.heap.size + 1, 2, none⟩ = some (.int .i64 r) := kept1 k37 hb5
  have k48 : W5.cell? ⟨w.heap.size + 1, 3, none⟩ = some (.int .i64 s) := kept1 k38 hb5
  have k49 : W5.cell? ⟨w.heap.size + 1 + 1, 0, none⟩ = some (.int .i64 i) := kept1 k39 hb5
  have k50 : W5.cell? ⟨w.heap.size + 1 + 1, 1, none⟩ = some (.int .i64 j) := kept1 k40 hb5
  have lk41 : w.heap.size < W5.heap.size := block_lt_of_cell k41
  have lk45 : w.heap.size + 1 < W5.heap.size := block_lt_of_cell k45
  have lk49 : w.heap.size + 1 + 1 < W5.heap.size := block_lt_of_cell k49
  have hv5 : Below w.heap.size w W5 := bstep0 hv4 hb5
  clear hb5 hv4 k31 k32 k33 k34 k35 k36 k37 k38 k39 k40 lk31 lk35 lk39
  go_wp2_with fail
  refine (EM.out _).mono ?_
  rintro e W6 ⟨rfl, hb6⟩
  have k51 : W6.cell? ⟨w.heap.size, 0, none⟩ = some (.int .i64 a) := kept1 k41 hb6
  have k52 : W6.cell? ⟨w.heap.size, 1, none⟩ = some (.int .i64 b) := kept1 k42 hb6
  have k53 : W6.cell? ⟨w.heap.size, 2, none⟩ = some (.int .i64 c) := kept1 k43 hb6
  have k54 : W6.cell? ⟨w.heap.size, 3, none⟩ = some (.int .i64 d) := kept1 k44 hb6
  have k55 : W6.cell? ⟨w.heap.size + 1, 0, none⟩ = some (.int .i64 p) := kept1 k45 hb6
  have k56 : W6.cell? ⟨w.heap.size + 1, 1, none⟩ = some (.int .i64 q) := kept1 k46 hb6
  have k57 : W6.cell? ⟨w.heap.size + 1, 2, none⟩ = some (.int .i64 r) := kept1 k47 hb6
  have k58 : W6.cell? ⟨w.heap.size + 1, 3, none⟩ = some (.int .i64 s) := kept1 k48 hb6
  have k59 : W6.cell? ⟨w.heap.size + 1 + 1, 0, none⟩ = some (.int .i64 i) := kept1 k49 hb6
  have k60 : W6.cell? ⟨w.heap.size + 1 + 1, 1, none⟩ = some (.int .i64 j) := kept1 k50 hb6
  have lk51 : w.heap.size < W6.heap.size := block_lt_of_cell k51
  have lk55 : w.heap.size + 1 < W6.heap.size := block_lt_of_cell k55
  have lk59 : w.heap.size + 1 + 1 < W6.heap.size := block_lt_of_cell k59
  have hv6 : Below w.heap.size w W6 := bstep0 hv5 hb6
  clear hb6 hv5 k41 k42 k43 k44 k45 k46 k47 k48 k49 k50 lk41 lk45 lk49
  go_wp2_with fail
  refine (EU.out _).mono ?_
  rintro e W7 ⟨rfl, hb7⟩
  have k61 : W7.cell? ⟨w.heap.size, 0, none⟩ = some (.int .i64 a) := kept_a1 k51 hb7
  have k62 : W7.cell? ⟨w.heap.size, 1, none⟩ = some (.int .i64 b) := kept_a1 k52 hb7
  have k63 : W7.cell? ⟨w.heap.size, 2, none⟩ = some (.int .i64 c) := kept_a1 k53 hb7
  have k64 : W7.cell? ⟨w.heap.size, 3, none⟩ = some (.int .i64 d) := kept_a1 k54 hb7
  have k65 : W7.cell? ⟨w.heap.size + 1, 0, none⟩ = some (.int .i64 p) := kept_a1 k55 hb7
  have k66 : W7.cell? ⟨w.heap.size + 1, 1, none⟩ = some (.int .i64 q) := kept_a1 k56 hb7
  have k67 : W7.cell? ⟨w.heap.size + 1, 2, none⟩ = some (.int .i64 r) := kept_a1 k57 hb7
  have k68 : W7.cell? ⟨w.heap.size + 1, 3, none⟩ = some (.int .i64 s) := kept_a1 k58 hb7
  have k69 : W7.cell? ⟨w.heap.size + 1 + 1, 0, none⟩ = some (.int .i64 i) := kept_a1 k59 hb7
  have k70 : W7.cell? ⟨w.heap.size + 1 + 1, 1, none⟩ = some (.int .i64 j) := kept_a1 k60 hb7
  have k71 : W7.cell? ⟨W6.heap.size, 0, none⟩ = some (.int .i64 0) := kept1 (by simp [go_sem]) hb7
  have k72 : W7.cell? ⟨W6.heap.size, 1, none⟩ = some (.int .i64 0) := kept1 (by simp [go_sem]) hb7
  have k73 : W7.cell? ⟨W6.heap.size, 2, none⟩ = some (.int .i64 0) := kept1 (by simp [go_sem]) hb7
  have k74 : W7.cell? ⟨W6.heap.size, 3, none⟩ = some (.int .i64 0) := kept1 (by simp [go_sem]) hb7
  have lk61 : w.heap.size < W7.heap.size := block_lt_of_cell k61
  have lk65 : w.heap.size + 1 < W7.heap.size := block_lt_of_cell k65
  have lk69 : w.heap.size + 1 + 1 < W7.heap.size := block_lt_of_cell k69
  have lk71 : W6.heap.size < W7.heap.size := block_lt_of_cell k71
  have hv7 : Below w.heap.size w W7 := bstep1 hv6 hb7
  clear hb7 hv6 k51 k52 k53 k54 k55 k56 k57 k58 k59 k60 lk51 lk55 lk59
  go_wp2_with fail
  refine (ES.out _).mono ?_
  rintro e W8 ⟨rfl, hb8⟩
  have k75 : W8.cell? ⟨w.heap.size, 0, none⟩ = some (.int .i64 a) := kept_a1 k61 hb8
  have k76 : W8.cell? ⟨w.heap.size, 1, none⟩ = some (.int .i64 b) := kept_a1 k62 hb8
  have k77 : W8.cell? ⟨w.heap.size, 2, none⟩ = some (.int .i64 c) := kept_a1 k63 hb8
  have k78 : W8.cell? ⟨w.heap.size, 3, none⟩ = some (.int .i64 d) := kept_a1 k64 hb8
  have k79 : W8.cell? ⟨w.heap.size + 1, 0, none⟩ = some (.int .i64 p) := kept_a1 k65 hb8
  have k80 : W8.cell? ⟨w.heap.size + 1, 1, none⟩ = some (.int .i64 q) := kept_a1 k66 hb8
  have k81 : W8.cell? ⟨w.heap.size + 1, 2, none⟩ = some (.int .i64 r) := kept_a1 k67 hb8
  have k82 : W8.cell? ⟨w.heap.size + 1, 3, none⟩ = some (.int .i64 s) := kept_a1 k68 hb8
  have k83 : W8.cell? ⟨w.heap.size + 1 + 1, 0, none⟩ = some (.int .i64 i) := kept_a1 k69 hb8
  have k84 : W8.cell? ⟨w.heap.size + 1 + 1, 1, none⟩ = some (.int .i64 j) := kept_a1 k70 hb8
  have k85 : W8.cell? ⟨W6.heap.size, 0, none⟩ = some (.int .i64 0) := kept_a1 k71 hb8
  have k86 : W8.cell? ⟨W6.heap.size, 1, none⟩ = some (.int .i64 0) := kept_a1 k72 hb8
  have k87 : W8.cell? ⟨W6.heap.size, 2, none⟩ = some (.int .i64 0) := kept_a1 k73 hb8
  have k88 : W8.cell? ⟨W6.heap.size, 3, none⟩ = some (.int .i64 0) := kept_a1 k74 hb8
  have k89 : W8.cell? ⟨W7.heap.size, 0, none⟩ = some (.int .i64 0) := kept1 (by simp [go_sem]) hb8
  have k90 : W8.cell? ⟨W7.heap.size, 1, none⟩ = some (.int .i64 0) := kept1 (by simp [go_sem]) hb8
  have k91 : W8.cell? ⟨W7.heap.size, 2, none⟩ = some (.int .i64 0) := kept1 (by simp [go_sem]) hb8
  have k92 : W8.cell? ⟨W7.heap.size, 3, none⟩ = some (.int .i64 0) := kept1 (by simp [go_sem]) hb8
  have lk75 : w.heap.size < W8.heap.size := block_lt_of_cell k75
  have lk79 : w.heap.size + 1 < W8.heap.size := block_lt_of_cell k79
  have lk83 : w.heap.size + 1 + 1 < W8.heap.size := block_lt_of_cell k83
  have lk85 : W6.heap.size < W8.heap.size := block_lt_of_cell k85
  have lk89 : W7.heap.size < W8.heap.size := block_lt_of_cell k89
  have hv8 : Below w.heap.size w W8 := bstep1 hv7 hb8
  clear hb8 hv7 k61 k62 k63 k64 k65 k66 k67 k68 k69 k70 k71 k72 k73 k74 lk61 lk65 lk69 lk71
  go_wp2_with fail
  refine (ET.out _).mono ?_
  rintro e W9 ⟨rfl, hb9⟩
  have k93 : W9.cell? ⟨w.heap.size, 0, none⟩ = some (.int .i64 a) := kept_a1 k75 hb9
  have k94 : W9.cell? ⟨w.heap.size, 1, none⟩ = some (.int .i64 b) := kept_a1 k76 hb9
  have k95 : W9.cell? ⟨w.heap.size, 2, none⟩ = some (.int .i64 c) := kept_a1 k77 hb9
  have k96 : W9.cell? ⟨w.heap.size, 3, none⟩ = some (.int .i64 d) := kept_a1 k78 hb9
  have k97 : W9.cell? ⟨w.heap.size + 1, 0, none⟩ = some (.int .i64 p) := kept_a1 k79 hb9
  have k98 : W9.cell? ⟨w.heap.size + 1, 1, none⟩ = some (.int .i64 q) := kept_a1 k80 hb9
  have k99 : W9.cell? ⟨w.heap.size + 1, 2, none⟩ = some (.int .i64 r) := kept_a1 k81 hb9
  have k100 : W9.cell? ⟨w.heap.size + 1, 3, none⟩ = some (.int .i64 s) := kept_a1 k82 hb9
  have k101 : W9.cell? ⟨w.heap.size + 1 + 1, 0, none⟩ = some (.int .i64 i) := kept_a1 k83 hb9
  have k102 : W9.cell? ⟨w.heap.size + 1 + 1, 1, none⟩ = some (.int .i64 j) := kept_a1 k84 hb9
  have k103 : W9.cell? ⟨W6.heap.size, 0, none⟩ = some (.int .i64 0) := kept_a1 k85 hb9
  have k104 : W9.cell? ⟨W6.heap.size, 1, none⟩ = some (.int .i64 0) := kept_a1 k86 hb9
  have k105 : W9.cell? ⟨W6.heap.size, 2, none⟩ = some (.int .i64 0) := kept_a1 k87 hb9
  have k106 : W9.cell? ⟨W6.heap.size, 3, none⟩ = some (.int .i64 0) := kept_a1 k88 hb9
  have k107 : W9.cell? ⟨W7.heap.size, 0, none⟩ = some (.int .i64 0) := kept_a1 k89 hb9
  have k108 : W9.cell? ⟨W7.heap.size, 1, none⟩ = some (.int .i64 0) := kept_a1 k90 hb9
  have k109 : W9.cell? ⟨W7.heap.size, 2, none⟩ = some (.int .i64 0) := kept_a1 k91 hb9
  have k110 : W9.cell? ⟨W7.heap.size, 3, none⟩ = some (.int .i64 0) := kept_a1 k92 hb9
  have k111 : W9.cell? ⟨W8.heap.size, 0, none⟩ = some (.int .i64 0) := kept1 (by simp [go_sem]) hb9
  have k112 : W9.cell? ⟨W8.heap.size, 1, none⟩ = some (.int .i64 0) := kept1 (by simp [go_sem]) hb9
  have k113 : W9.cell? ⟨W8.heap.size, 2, none⟩ = some (.int .i64 0) := kept1 (by simp [go_sem]) hb9
  have k114 : W9.cell? ⟨W8.heap.size, 3, none⟩ = some (.int .i64 0) := kept1 (by simp [go_sem]) hb9
  have lk93 : w.heap.size < W9.heap.size := block_lt_of_cell k93
  have lk97 : w.heap.size + 1 < W9.heap.size := block_lt_of_cell k97
  have lk101 : w.heap.size + 1 + 1 < W9.heap.size := block_lt_of_cell k101
  have lk103 : W6.heap.size < W9.heap.size := block_lt_of_cell k103
  have lk107 : W7.heap.size < W9.heap.size := block_lt_of_cell k107
  have lk111 : W8.heap.size < W9.heap.size := block_lt_of_cell k111
  have hv9 : Below w.heap.size w W9 := bstep1 hv8 hb9
  clear hb9 hv8 k75 k76 k77 k78 k79 k80 k81 k82 k83 k84 k85 k86 k87 k88 k89 k90 k91 k92 lk75 lk79 lk83 lk85 lk89
  go_wp2_with fail
  refine (EV.out _).mono ?_
  rintro e W10 ⟨rfl, hb10⟩
  have k115 : W10.cell? ⟨w.heap.size, 0, none⟩ = some (.int .i64 a) := kept_a1 k93 hb10
  have k116 : W10.cell? ⟨w.heap.size, 1, none⟩ = some (.int .i64 b) := kept_a1 k94 hb10
  have k117 : W10.cell? ⟨w.heap.size, 2, none⟩ = some (.int .i64 c) := kept_a1 k95 hb10
  have k118 : W10.cell? ⟨w.heap.size, 3, none⟩ = some (.int .i64 d) := kept_a1 k96 hb10
  have k119 : W10.cell? ⟨w.heap.size + 1, 0, none⟩ = some (.int .i64 p) := kept_a1 k97 hb10
  have k120 : W10.cell? ⟨w.heap.size + 1, 1, none⟩ = some (.int .i64 q) := kept_a1 k98 hb10
  have k121 : W10.cell? ⟨w.heap.size + 1, 2, none⟩ = some (.int .i64 r) := kept_a1 k99 hb10
  have k122 : W10.cell? ⟨w.heap.size + 1, 3, none⟩ = some (.int .i64 s) := kept_a1 k100 hb10
  have k123 : W10.cell? ⟨w.heap.size + 1 + 1, 0, none⟩ = some (.int .i64 i) := kept_a1 k101 hb10
  have k124 : W10.cell? ⟨w.heap.size + 1 + 1, 1, none⟩ = some (.int .i64 j) := kept_a1 k102 hb10
  have k125 : W10.cell? ⟨W6.heap.size, 0, none⟩ = some (.int .i64 0) := kept_a1 k103 hb10
  have k126 : W10.cell? ⟨W6.heap.size, 1, none⟩ = some (.int .i64 0) := kept_a1 k104 hb10
  have k127 : W10.cell? ⟨W6.heap.size, 2, none⟩ = some (.int .i64 0) := kept_a1 k105 hb10
  have k128 : W10.cell? ⟨W6.heap.size, 3, none⟩ = some (.int .i64 0) := kept_a1 k106 hb10
  have k129 : W10.cell? ⟨W7.heap.size, 0, none⟩ = some (.int .i64 0) := kept_a1 k107 hb10
  have k130 : W10.cell? ⟨W7.heap.size, 1, none⟩ = some (.int .i64 0) := kept_a1 k108 hb10
  have k131 : W10.cell? ⟨W7.heap.size, 2, none⟩ = some (.int .i64 0) := kept_a1 k109 hb10
  have k132 : W10.cell? ⟨W7.heap.size, 3, none⟩ = some (.int .i64 0) := kept_a1 k110 hb10
  have k133 : W10.cell? ⟨W8.heap.size, 0, none⟩ = some (.int .i64 0) := kept_a1 k111 hb10
  have k134 : W10.cell? ⟨W8.heap.size, 1, none⟩ = some (.int .i64 0) := kept_a1 k112 hb10
  have k135 : W10.cell? ⟨W8.heap.size, 2, none⟩ = some (.int .i64 0) := kept_a1 k113 hb10
  have k136 : W10.cell? ⟨W8.heap.size, 3, none⟩ = some (.int .i64 0) := kept_a1 k114 hb10
  have k137 : W10.cell? ⟨W9.heap.size, 0, none⟩ = some (.int .i64 0) := kept1 (by simp [go_sem]) hb10
  have k138 : W10.cell? ⟨W9.heap.size, 1, none⟩ = some (.int .i64 0) := kept1 (by simp [go_sem]) hb10
  have k139 : W10.cell? ⟨W9.heap.size, 2, none⟩ = some (.int .i64 0) := kept1 (by simp [go_sem]) hb10
  have k140 : W10.cell? ⟨W9.heap.size, 3, none⟩ = some (.int .i64 0) := kept1 (by simp [go_sem]) hb10
  have lk115 : w.heap.size < W10.heap.size := block_lt_of_cell k115
  have lk119 : w.heap.size + 1 < W10.heap.size := block_lt_of_cell k119
  have lk123 : w.heap.size + 1 + 1 < W10.heap.size := block_lt_of_cell k123
  have lk125 : W6.heap.size < W10.heap.size := block_lt_of_cell k125
  have lk129 : W7.heap.size < W10.heap.size := block_lt_of_cell k129
  have lk133 : W8.heap.size < W10.heap.size := block_lt_of_cell k133
  have lk137 : W9.heap.size < W10.heap.size := block_lt_of_cell k137
  have hv10 : Below w.heap.size w W10 := bstep1 hv9 hb10
  clear hb10 hv9 k93 k94 k95 k96 k97 k98 k99 k100 k101 k102 k103 k104 k105 k106 k107 k108 k109 k110 k111 k112 k113 k114 lk93 lk97 lk101 lk103 lk107 lk111
  go_wp2_with fail
  refine (as_yes 0 0 0 0 1 _).mono ?_
  rintro e W11 ⟨rfl, hb11⟩
  have k141 : W11.cell? ⟨w.heap.size, 0, none⟩ = some (.int .i64 a) := kept_a2 k115 hb11
  have k142 : W11.cell? ⟨w.heap.size, 1, none⟩ = some (.int .i64 b) := kept_a2 k116 hb11
  have k143 : W11.cell? ⟨w.heap.size, 2, none⟩ = some (.int .i64 c) := kept_a2 k117 hb11
  have k144 : W11.cell? ⟨w.heap.size, 3, none⟩ = some (.int .i64 d) := kept_a2 k118 hb11
  have k145 : W11.cell? ⟨w.heap.size + 1, 0, none⟩ = some (.int .i64 p) := kept_a2 k119 hb11
  have k146 : W11.cell? ⟨w.heap.size + 1, 1, none⟩ = some (.int .i64 q) := kept_a2 k120 hb11
  have k147 : W11.cell? ⟨w.heap.size + 1, 2, none⟩ = some (.int .i64 r) := kept_a2 k121 hb11
  have k148 : W11.cell? ⟨w.heap.size + 1, 3, none⟩ = some (.int .i64 s) := kept_a2 k122 hb11
  have k149 : W11.cell? ⟨w.heap.size + 1 + 1, 0, none⟩ = some (.int .i64 i) := kept_a2 k123 hb11
  have k150 : W11.cell? ⟨w.heap.size + 1 + 1, 1, none⟩ = some (.int .i64 j) := kept_a2 k124 hb11
  have k151 : W11.cell? ⟨W6.heap.size, 0, none⟩ = some (.int .i64 0) := kept_a2 k125 hb11
  have k152 : W11.cell? ⟨W6.heap.size, 1, none⟩ = some (.int .i64 0) := kept_a2 k126 hb11
  have k153 : W11.cell? ⟨W6.heap.size, 2, none⟩ = some (.int .i64 0) := kept_a2 k127 hb11
  have k154 : W11.cell? ⟨W6.heap.size, 3, none⟩ = some (.int .i64 0) := kept_a2 k128 hb11
  have k155 : W11.cell? ⟨W7.heap.size, 0, none⟩ = some (.int .i64 0) := kept_a2 k129 hb11
  have k156 : W11.cell? ⟨W7.heap.size, 1, none⟩ = some (.int .i64 0) := kept_a2 k130 hb11
  have k157 : W11.cell? ⟨W7.heap.size, 2, none⟩ = some (.int .i64 0) := kept_a2 k131 hb11
  have k158 : W11.cell? ⟨W7.heap.size, 3, none⟩ = some (.int .i64 0) := kept_a2 k132 hb11
  have k159 : W11.cell? ⟨W8.heap.size, 0, none⟩ = some (.int .i64 0) := kept_a2 k133 hb11
  have k160 : W11.cell? ⟨W8.heap.size, 1, none⟩ = some (.int .i64 0) := kept_a2 k134 hb11
  have k161 : W11.cell? ⟨W8.heap.size, 2, none⟩ = some (.int .i64 0) := kept_a2 k135 hb11
  have k162 : W11.cell? ⟨W8.heap.size, 3, none⟩ = some (.int .i64 0) := kept_a2 k136 hb11
  have k163 : W11.cell? ⟨W9.heap.size, 0, none⟩ = some (.int .i64 0) := kept_a2 k137 hb11
  have k164 : W11.cell? ⟨W9.heap.size, 1, none⟩ = some (.int .i64 0) := kept_a2 k138 hb11
  have k165 : W11.cell? ⟨W9.heap.size, 2, none⟩ = some (.int .i64 0) := kept_a2 k139 hb11
  have k166 : W11.cell? ⟨W9.heap.size, 3, none⟩ = some (.int .i64 0) := kept_a2 k140 hb11
  have k167 : W11.cell? ⟨W10.heap.size, 0, none⟩ = some (.int .i64 0) := kept1 (by simp [go_sem]) hb11
  have k168 : W11.cell? ⟨W10.heap.size, 1, none⟩ = some (.int .i64 0) := kept1 (by simp [go_sem]) hb11
  have k169 : W11.cell? ⟨W10.heap.size + 1, 0, none⟩ = some (.int .i64 0) := kept1 (by simp [go_sem]) hb11
  have k170 : W11.cell? ⟨W10.heap.size + 1, 1, none⟩ = some (.int .i64 0) := kept1 (by simp [go_sem]) hb11
  have k171 : W11.cell? ⟨W10.heap.size + 1, 2, none⟩ = some (.int .i64 0) := kept1 (by simp [go_sem]) hb11
  have k172 : W11.cell? ⟨W10.heap.size + 1, 3, none⟩ = some (.int .i64 0) := kept1 (by simp [go_sem]) hb11
  have k173 : W11.cell? ⟨W10.heap.size + 1, 4, none⟩ = some (.int .i64 1) := kept1 (by simp [go_sem]) hb11
  have lk141 : w.heap.size < W11.heap.size := block_lt_of_cell k141
  have lk145 : w.heap.size + 1 < W11.heap.size := block_lt_of_cell k145
  have lk149 : w.heap.size + 1 + 1 < W11.heap.size := block_lt_of_cell k149
  have lk151 : W6.heap.size < W11.heap.size := block_lt_of_cell k151
  have lk155 : W7.heap.size < W11.heap.size := block_lt_of_cell k155
  have lk159 : W8.heap.size < W11.heap.size := block_lt_of_cell k159
  have lk163 : W9.heap.size < W11.heap.size := block_lt_of_cell k163
  have lk167 : W10.heap.size < W11.heap.size := block_lt_of_cell k167
  have lk169 : W10.heap.size + 1 < W11.heap.size := block_lt_of_cell k169
  have hv11 : Below w.heap.size w W11 := bstep2 hv10 hb11
  clear hb11 hv10 k115 k116 k117 k118 k119 k120 k121 k122 k123 k124 k125 k126 k127 k128 k129 k130 k131 k132 k133 k134 k135 k136 k137 k138 k139 k140 lk115 lk119 lk123 lk125 lk129 lk133 lk137
  go_wp2_with fail
  refine (as_yes 0 0 0 0 1 _).mono ?_
  rintro e W12 ⟨rfl, hb12⟩
  have k174 : W12.cell? ⟨w.heap.size, 0, none⟩ = some (.int .i64 a) := kept1 k141 hb12
  have k175 : W12.cell? ⟨w.heap.size, 1, none⟩ = some (.int .i64 b) := kept1 k142 hb12
  have k176 : W12.cell? ⟨w.heap.size, 2, none⟩ = some (.int .i64 c) := kept1 k143 hb12
  have k177 : W12.cell? ⟨w.heap.size, 3, none⟩ = some (.int .i64 d) := kept1 k144 hb12
  have k178 : W12.cell? ⟨w.heap.size + 1, 0, none⟩ = some (.int .i64 p) := kept1 k145 hb12
  have k179 : W12.cell? ⟨w.heap.size + 1, 1, none⟩ = some (.int .i64 q) := kept1 k146 hb12
  have k180 : W12.cell? ⟨w.heap.size + 1, 2, none⟩ = some (.int .i64 r) := kept1 k147 hb12
  have k181 : W12.cell? ⟨w.heap.size + 1, 3, none⟩ = some (.int .i64 s) := kept1 k148 hb12
  have k182 : W12.cell? ⟨w.heap.size + 1 + 1, 0, none⟩ = some (.int .i64 i) := kept1 k149 hb12
  have k183 : W12.cell? ⟨w.heap.size + 1 + 1, 1, none⟩ = some (.int .i64 j) := kept1 k150 hb12
  have k184 : W12.cell? ⟨W6.heap.size, 0, none⟩ = some (.int .i64 0) := kept1 k151 hb12
  have k185 : W12.cell? ⟨W6.heap.size, 1, none⟩ = some (.int .i64 0) := kept1 k152 hb12
  have k186 : W12.cell? ⟨W6.heap.size, 2, none⟩ = some (.int .i64 0) := kept1 k153 hb12
  have k187 : W12.cell? ⟨W6.heap.size, 3, none⟩ = some (.int .i64 0) := kept1 k154 hb12
  have k188 : W12.cell? ⟨W7.heap.size, 0, none⟩ = some (.int .i64 0) := kept1 k155 hb12
  have k189 : W12.cell? ⟨W7.heap.size, 1, none⟩ = some (.int .i64 0) := kept1 k156 hb12
  have k190 : W12.cell? ⟨W7.heap.size, 2, none⟩ = some (.int .i64 0) := kept1 k157 hb12
  have k191 : W12.cell? ⟨W7.heap.size, 3, none⟩ = some (.int .i64 0) := kept1 k158 hb12
  have k192 : W12.cell? ⟨W8.heap.size, 0, none⟩ = some (.int .i64 0) := kept1 k159 hb12
  have k193 : W12.cell? ⟨W8.heap.size, 1, none⟩ = some (.int .i64 0) := kept1 k160 hb12
  have k194 : W12.cell? ⟨W8.heap.size, 2, none⟩ = some (.int .i64 0) := kept1 k161 hb12
  have k195 : W12.cell? ⟨W8.heap.size, 3, none⟩ = some (.int .i64 0) := kept1 k162 hb12
  have k196 : W12.cell? ⟨W9.heap.size, 0, none⟩ = some (.int .i64 0) := kept1 k163 hb12
  have k197 : W12.cell? ⟨W9.heap.size, 1, none⟩ = some (.int .i64 0) := kept1 k164 hb12
  have k198 : W12.cell? ⟨W9.heap.size, 2, none⟩ = some (.int .i64 0) := kept1 k165 hb12
  have k199 : W12.cell? ⟨W9.heap.size, 3, none⟩ = some (.int .i64 0) := kept1 k166 hb12
  have k200 : W12.cell? ⟨W10.heap.size, 0, none⟩ = some (.int .i64 0) := kept1 k167 hb12
  have k201 : W12.cell? ⟨W10.heap.size, 1, none⟩ = some (.int .i64 0) := kept1 k168 hb12
  have k202 : W12.cell? ⟨W10.heap.size + 1, 0, none⟩ = some (.int .i64 0) := kept1 k169 hb12
  have k203 : W12.cell? ⟨W10.heap.size + 1, 1, none⟩ = some (.int .i64 0) := kept1 k170 hb12
  have k204 : W12.cell? ⟨W10.heap.size + 1, 2, none⟩ = some (.int .i64 0) := kept1 k171 hb12
  have k205 : W12.cell? ⟨W10.heap.size + 1, 3, none⟩ = some (.int .i64 0) := kept1 k172 hb12
  have k206 : W12.cell? ⟨W10.heap.size + 1, 4, none⟩ = some (.int .i64 1) := kept1 k173 hb12
  have lk174 : w.heap.size < W12.heap.size := block_lt_of_cell k174
  have lk178 : w.heap.size + 1 < W12.heap.size := block_lt_of_cell k178
  have lk182 : w.heap.size + 1 + 1 < W12.heap.size := block_lt_of_cell k182
  have lk184 : W6.heap.size < W12.heap.size := block_lt_of_cell k184
  have lk188 : W7.heap.size < W12.heap.size := block_lt_of_cell k188
  have lk192 : W8.heap.size < W12.heap.size := block_lt_of_cell k192
  have lk196 : W9.heap.size < W12.heap.size := block_lt_of_cell k196
  have lk200 : W10.heap.size < W12.heap.size := block_lt_of_cell k200
  have lk202 : W10.heap.size + 1 < W12.heap.size := block_lt_of_cell k202
  have hv12 : Below w.heap.size w W12 := bstep0 hv11 hb12
  clear hb12 hv11 k141 k142 k143 k144 k145 k146 k147 k148 k149 k150 k151 k152 k153 k154 k155 k156 k157 k158 k159 k160 k161 k162 k163 k164 k165 k166 k167 k168 k169 k170 k171 k172 k173 lk141 lk145 lk149 lk151 lk155 lk159 lk163 lk167 lk169
  go_wp2_with fail
  refine (as_yes 0 0 0 0 1 _).mono ?_
  rintro e W13 ⟨rfl, hb13⟩
  have k207 : W13.cell? ⟨w.heap.size, 0, none⟩ = some (.int .i64 a) := kept1 k174 hb13
  have k208 : W13.cell? ⟨w.heap.size, 1, none⟩ = some (.int .i64 b) := kept1 k175 hb13
  have k209 : W13.cell? ⟨w.heap.size, 2, none⟩ = some (.int .i64 c) := kept1 k176 hb13
  have k210 : W13.cell? ⟨w.heap.size, 3, none⟩ = some (.int .i64 d) := kept1 k177 hb13
  have k211 : W13.cell? ⟨w.heap.size + 1, 0, none⟩ = some (.int .i64 p) := kept1 k178 hb13
  have k212 : W13.cell? ⟨w.heap.size + 1, 1, none⟩ = some (.int .i64 q) := kept1 k179 hb13
  have k213 : W13.cell? ⟨w.heap.size + 1, 2, none⟩ = some (.int .i64 r) := kept1 k180 hb13
  have k214 : W13.cell? ⟨w.heap.size + 1, 3, none⟩ = some (.int .i64 s) := kept1 k181 hb13
  have k215 : W13.cell? ⟨w.heap.size + 1 + 1, 0, none⟩ = some (.int .i64 i) := kept1 k182 hb13
  have k216 : W13.cell? ⟨w.heap.size + 1 + 1, 1, none⟩ = some (.int .i64 j) := kept1 k183 hb13
  have k217 : W13.cell? ⟨W6.heap.size, 0, none⟩ = some (.int .i64 0) := kept1 k184 hb13
  have k218 : W13.cell? ⟨W6.heap.size, 1, none⟩ = some (.int .i64 0) := kept1 k185 hb13
  have k219 : W13.cell? ⟨W6.heap.size, 2, none⟩ = some (.int .i64 0) := kept1 k186 hb13
  have k220 : W13.cell? ⟨W6.heap.size, 3, none⟩ = some (.int .i64 0) := kept1 k187 hb13
  have k221 : W13.cell? ⟨W7.heap.size, 0, none⟩ = some (.int .i64 0) := kept1 k188 hb13
  have k222 : W13.cell? ⟨W7.heap.size, 1, none⟩ = some (.int .i64 0) := kept1 k189 hb13
  have k223 : W13.cell? ⟨W7.heap.size, 2, none⟩ = some (.int .i64 0) := kept1 k190 hb13
  have k224 : W13.cell? ⟨W7.heap.size, 3, none⟩ = some (.int .i64 0) := kept1 k191 hb13
  have k225 : W13.cell? ⟨W8.heap.size, 0, none⟩ = some (.int .i64 0) := kept1 k192 hb13
  have k226 : W13.cell? ⟨W8.heap.size, 1, none⟩ = some (.int .i64 0) := kept1 k193 hb13
  have k227 : W13.cell? ⟨W8.heap.size, 2, none⟩ = some (.int .i64 0) := kept1 k194 hb13
  have k228 : W13.cell? ⟨W8.heap.size, 3, none⟩ = some (.int .i64 0) := kept1 k195 hb13
  have k229 : W13.cell? ⟨W9.heap.size, 0, none⟩ = some (.int .i64 0) := kept1 k196 hb13
  have k230 : W13.cell? ⟨W9.heap.size, 1, none⟩ = some (.int .i64 0) := kept1 k197 hb13
  have k231 : W13.cell? ⟨W9.heap.size, 2, none⟩ = some (.int .i64 0) := kept1 k198 hb13
  have k232 : W13.cell? ⟨W9.heap.size, 3, none⟩ = some (.int .i64 0) := kept1 k199 hb13
  have k233 : W13.cell? ⟨W10.heap.size, 0, none⟩ = some (.int .i64 0) := kept1 k200 hb13
  have k234 : W13.cell? ⟨W10.heap.size, 1, none⟩ = some (.int .i64 0) := kept1 k201 hb13
  have k235 : W13.cell? ⟨W10.heap.size + 1, 0, none⟩ = some (.int .i64 0) := kept1 k202 hb13
  have k236 : W13.cell? ⟨W10.heap.size + 1, 1, none⟩ = some (.int .i64 0) := kept1 k203 hb13
  have k237 : W13.cell? ⟨W10.heap.size + 1, 2, none⟩ = some (.int .i64 0) := kept1 k204 hb13
  have k238 : W13.cell? ⟨W10.heap.size + 1, 3, none⟩ = some (.int .i64 0) := kept1 k205 hb13
  have k239 : W13.cell? ⟨W10.heap.size + 1, 4, none⟩ = some (.int .i64 1) := kept1 k206 hb13
  have lk207 : w.heap.size < W13.heap.size := block_lt_of_cell k207
  have lk211 : w.heap.size + 1 < W13.heap.size := block_lt_of_cell k211
  have lk215 : w.heap.size + 1 + 1 < W13.heap.size := block_lt_of_cell k215
  have lk217 : W6.heap.size < W13.heap.size := block_lt_of_cell k217
  have lk221 : W7.heap.size < W13.heap.size := block_lt_of_cell k221
  have lk225 : W8.heap.size < W13.heap.size := block_lt_of_cell k225
  have lk229 : W9.heap.size < W13.heap.size := block_lt_of_cell k229
  have lk233 : W10.heap.size < W13.heap.size := block_lt_of_cell k233
  have lk235 : W10.heap.size + 1 < W13.heap.size := block_lt_of_cell k235
  have hv13 : Below w.heap.size w W13 := bstep0 hv12 hb13
  clear hb13 hv12 k174 k175 k176 k177 k178 k179 k180 k181 k182 k183 k184 k185 k186 k187 k188 k189 k190 k191 k192 k193 k194 k195 k196 k197 k198 k199 k200 k201 k202 k203 k204 k205 k206 lk174 lk178 lk182 lk184 lk188 lk192 lk196 lk200 lk202
  clear k211 k212 k213 k214 lk211
  clear k217 k218 k219 k220 lk217
  clear k221 k222 k223 k224 lk221
  clear k225 k226 k227 k228 lk225
  go_wp2_with fail
  refine (as_yes 0 0 0 0 1 _).mono ?_
  rintro e W14 ⟨rfl, hb14⟩
  have k240 : W14.cell? ⟨w.heap.size, 0, none⟩ = some (.int .i64 a) := kept1 k207 hb14
  have k241 : W14.cell? ⟨w.heap.size, 1, none⟩ = some (.int .i64 b) := kept1 k208 hb14
  have k242 : W14.cell? ⟨w.heap.size, 2, none⟩ = some (.int .i64 c) := kept1 k209 hb14
  have k243 : W14.cell? ⟨w.heap.size, 3, none⟩ = some (.int .i64 d) := kept1 k210 hb14
  have k244 : W14.cell? ⟨w.heap.size + 1 + 1, 0, none⟩ = some (.int .i64 i) := kept1 k215 hb14
  have k245 : W14.cell? ⟨w.heap.size + 1 + 1, 1, none⟩ = some (.int .i64 j) := kept1 k216 hb14
  have k246 : W14.cell? ⟨W9.heap.size, 0, none⟩ = some (.int .i64 0) := kept1 k229 hb14
  have k247 : W14.cell? ⟨W9.heap.size, 1, none⟩ = some (.int .i64 0) := kept1 k230 hb14
  have k248 : W14.cell? ⟨W9.heap.size, 2, none⟩ = some (.int .i64 0) := kept1 k231 hb14
  have k249 : W14.cell? ⟨W9.heap.size, 3, none⟩ = some (.int .i64 0) := kept1 k232 hb14
  have k250 : W14.cell? ⟨W10.heap.size, 0, none⟩ = some (.int .i64 0) := kept1 k233 hb14
  have k251 : W14.cell? ⟨W10.heap.size, 1, none⟩ = some (.int .i64 0) := kept1 k234 hb14
  have k252 : W14.cell? ⟨W10.heap.size + 1, 0, none⟩ = some (.int .i64 0) := kept1 k235 hb14
  have k253 : W14.cell? ⟨W10.heap.size + 1, 1, none⟩ = some (.int .i64 0) := kept1 k236 hb14
  have k254 : W14.cell? ⟨W10.heap.size + 1, 2, none⟩ = some (.int .i64 0) := kept1 k237 hb14
  have k255 : W14.cell? ⟨W10.heap.size + 1, 3, none⟩ = some (.int .i64 0) := kept1 k238 hb14
  have k256 : W14.cell? ⟨W10.heap.size + 1, 4, none⟩ = some (.int .i64 1) := kept1 k239 hb14
  have lk240 : w.heap.size < W14.heap.size := block_lt_of_cell k240
  have lk244 : w.heap.size + 1 + 1 < W14.heap.size := block_lt_of_cell k244
  have lk246 : W9.heap.size < W14.heap.size := block_lt_of_cell k246
  have lk250 : W10.heap.size < W14.heap.size := block_lt_of_cell k250
  have lk252 : W10.heap.size + 1 < W14.heap.size := block_lt_of_cell k252
  have hv14 : Below w.heap.size w W14 := bstep0 hv13 hb14
  clear hb14 hv13 k207 k208 k209 k210 k215 k216 k229 k230 k231 k232 k233 k234 k235 k236 k237 k238 k239 lk207 lk215 lk229 lk233 lk235
  clear k244 k245 lk244
  clear k246 k247 k248 k249 lk246
  clear k252 k253 k254 k255 k256 lk252
  go_wp2_with fail
  refine (sanity_tab hT _ hv14).mono ?_
  rintro e W15 ⟨rfl, hb15⟩
  have k257 : W15.cell? ⟨w.heap.size, 0, none⟩ = some (.int .i64 a) := kept1 k240 hb15
  have k258 : W15.cell? ⟨w.heap.size, 1, none⟩ = some (.int .i64 b) := kept1 k241 hb15
  have k259 : W15.cell? ⟨w.heap.size, 2, none⟩ = some (.int .i64 c) := kept1 k242 hb15
  have k260 : W15.cell? ⟨w.heap.size, 3, none⟩ = some (.int .i64 d) := kept1 k243 hb15
  have k261 : W15.cell? ⟨W10.heap.size, 0, none⟩ = some (.int .i64 0) := kept1 k250 hb15
  have k262 : W15.cell? ⟨W10.heap.size, 1, none⟩ = some (.int .i64 0) := kept1 k251 hb15
  have lk257 : w.heap.size < W15.heap.size := block_lt_of_cell k257
  have lk261 : W10.heap.size < W15.heap.size := block_lt_of_cell k261
  have hv15 : Below w.heap.size w W15 := bstep0 hv14 hb15
  clear hb15 hv14 k240 k241 k242 k243 k250 k251 lk240 lk250
  go_wp2
  go_ret
  exact ⟨by first | rfl | simp, (by repeat (first | with_reducible exact Below.refl _ _ | with_reducible assumption | refine below_drewN ?_ _ | refine Below.drew ?_ | refine Below.alloc ?_ (by first | (simp; done) | (simp; omega) | omega) _ | refine Below.setCell ?_ (by first | (simp; done) | (simp; omega) | omega) _ | refine Below.trans ?_ (Below.mono (by assumption) (by first | (simp; done) | (simp; omega) | omega))))⟩

end Go.Proofs.YtffabmojbelaaaaDoor
