/- The law ExactSums, a case. -/
import Derived.Test.YtpbomeoonknifaaDoorSz
namespace Go.Proofs.YtpbomeoonknifaaDoor
open Go.RowKit Go.Shelf

set_option maxRecDepth 100000 in
set_option maxHeartbeats 8000000 in
theorem sums_ok (a b c d : Int) (n : Int) (y z u v m : Rt.Num) (HC : Hid (∀ W : World, Calls Tryd.prog 23 #[.agg #[.int .i64 a, .int .i64 b], .agg #[.int .i64 c, .int .i64 d]] W fun e w' => e = .returned (.tuple #[.int .i64 n, .int .i64 0]) ∧ Below W.heap.size W w')) (HN : Hid (∀ W : World, Calls Tryd.prog 24 #[.agg #[.int .i64 a, .int .i64 b]] W fun e w' => e = .returned (.tuple #[.agg #[.int .i64 (-a), .int .i64 b], .int .i64 0]) ∧ Below W.heap.size W w')) (Hy : Hid (∀ W : World, Calls Tryd.prog 25 #[.agg #[.int .i64 a, .int .i64 b], .agg #[.int .i64 c, .int .i64 d]] W fun e w' => e = .returned (.tuple #[.agg #[.int .i64 y.n, .int .i64 y.d], .int .i64 y.e]) ∧ Below W.heap.size W w')) (Hz : Hid (∀ W : World, Calls Tryd.prog 26 #[.agg #[.int .i64 a, .int .i64 b], .agg #[.int .i64 c, .int .i64 d]] W fun e w' => e = .returned (.tuple #[.agg #[.int .i64 z.n, .int .i64 z.d], .int .i64 z.e]) ∧ Below W.heap.size W w')) (Hu : Hid (∀ W : World, Calls Tryd.prog 27 #[.agg #[.int .i64 a, .int .i64 b], .agg #[.int .i64 c, .int .i64 d]] W fun e w' => e = .returned (.tuple #[.agg #[.int .i64 u.n, .int .i64 u.d], .int .i64 u.e]) ∧ Below W.heap.size W w')) (Hv : Hid (∀ W : World, Calls Tryd.prog 28 #[.agg #[.int .i64 a, .int .i64 b], .agg #[.int .i64 c, .int .i64 d]] W fun e w' => e = .returned (.tuple #[.agg #[.int .i64 v.n, .int .i64 v.d], .int .i64 v.e]) ∧ Below W.heap.size W w')) (Hm : Hid (∀ W : World, Calls Tryd.prog 29 #[.agg #[.int .i64 a, .int .i64 b], .agg #[.int .i64 c, .int .i64 d]] W fun e w' => e = .returned (.tuple #[.agg #[.int .i64 m.n, .int .i64 m.d], .int .i64 m.e]) ∧ Below W.heap.size W w')) (KV : Hid (∀ W : World, Calls Tryd.prog 22 #[.agg #[.int .i64 a, .int .i64 b]] W fun e w' => e = .returned (.bool true) ∧ Below W.heap.size W w')) (KN : Hid (∀ W : World, Calls Tryd.prog 30 #[.agg #[.int .i64 a, .int .i64 b]] W fun e w' => e = .returned (.agg #[.int .i64 (-a), .int .i64 b]) ∧ Below W.heap.size W w')) (KW : Hid (∀ W : World, Calls Tryd.prog 31 #[.agg #[.int .i64 a, .int .i64 b], .agg #[.int .i64 c, .int .i64 d]] W fun e w' => e = .returned (.bool false) ∧ Below W.heap.size W w')) (KC : Hid (∀ W : World, Calls Tryd.prog 32 #[.agg #[.int .i64 a, .int .i64 b], .agg #[.int .i64 c, .int .i64 d]] W fun e w' => e = .returned (.int .i64 n) ∧ Below W.heap.size W w')) (Ky : Hid (∀ W : World, Calls Tryd.prog 33 #[.agg #[.int .i64 a, .int .i64 b], .agg #[.int .i64 c, .int .i64 d]] W fun e w' => e = .returned (.agg #[.int .i64 y.n, .int .i64 y.d, .int .i64 y.e]) ∧ Below W.heap.size W w')) (Kz : Hid (∀ W : World, Calls Tryd.prog 34 #[.agg #[.int .i64 a, .int .i64 b], .agg #[.int .i64 c, .int .i64 d]] W fun e w' => e = .returned (.agg #[.int .i64 z.n, .int .i64 z.d, .int .i64 z.e]) ∧ Below W.heap.size W w')) (Ku : Hid (∀ W : World, Calls Tryd.prog 35 #[.agg #[.int .i64 a, .int .i64 b], .agg #[.int .i64 c, .int .i64 d]] W fun e w' => e = .returned (.agg #[.int .i64 u.n, .int .i64 u.d, .int .i64 u.e]) ∧ Below W.heap.size W w')) (Kv : Hid (∀ W : World, Calls Tryd.prog 36 #[.agg #[.int .i64 a, .int .i64 b], .agg #[.int .i64 c, .int .i64 d]] W fun e w' => e = .returned (.agg #[.int .i64 v.n, .int .i64 v.d, .int .i64 v.e]) ∧ Below W.heap.size W w')) (Km : Hid (∀ W : World, Calls Tryd.prog 37 #[.agg #[.int .i64 a, .int .i64 b], .agg #[.int .i64 c, .int .i64 d]] W fun e w' => e = .returned (.agg #[.int .i64 m.n, .int .i64 m.d, .int .i64 m.e]) ∧ Below W.heap.size W w')) (w : World) (hT : Hid (Tab w.heap.size w)) :
    Calls Tryd.prog 4 #[.agg #[.int .i64 a, .int .i64 b], .agg #[.int .i64 c, .int .i64 d]] w fun e w' => e = .returned (.bool true) ∧ Below w.heap.size w w' := by
  go_enter Tryd.func4, Tryd.ntmps4
  go_wp2_with fail
  refine (HC.out _).mono ?_
  rintro e W1 ⟨rfl, hb1⟩
  have k1 : W1.cell? ⟨w.heap.size, 0, none⟩ = some (.int .i64 a) := kept1 (by simp [go_sem]) hb1
  have k2 : W1.cell? ⟨w.heap.size, 1, none⟩ = some (.int .i64 b) := kept1 (by simp [go_sem]) hb1
  have k3 : W1.cell? ⟨w.heap.size + 1, 0, none⟩ = some (.int .i64 c) := kept1 (by simp [go_sem]) hb1
  have k4 : W1.cell? ⟨w.heap.size + 1, 1, none⟩ = some (.int .i64 d) := kept1 (by simp [go_sem]) hb1
  have lk1 : w.heap.size < W1.heap.size := block_lt_of_cell k1
  have lk3 : w.heap.size + 1 < W1.heap.size := block_lt_of_cell k3
  have hv1 : Below w.heap.size w W1 := bstep2 (Below.refl _ _) hb1
  clear hb1  
  go_wp2_with fail
  refine (HN.out _).mono ?_
  rintro e W2 ⟨rfl, hb2⟩
  have k5 : W2.cell? ⟨w.heap.size, 0, none⟩ = some (.int .i64 a) := kept1 k1 hb2
  have k6 : W2.cell? ⟨w.heap.size, 1, none⟩ = some (.int .i64 b) := kept1 k2 hb2
  have k7 : W2.cell? ⟨w.heap.size + 1, 0, none⟩ = some (.int .i64 c) := kept1 k3 hb2
  have k8 : W2.cell? ⟨w.heap.size + 1, 1, none⟩ = some (.int .i64 d) := kept1 k4 hb2
  have lk5 : w.heap.size < W2.heap.size := block_lt_of_cell k5
  have lk7 : w.heap.size + 1 < W2.heap.size := block_lt_of_cell k7
  have hv2 : Below w.heap.size w W2 := bstep0 hv1 hb2
  clear hb2 hv1 k1 k2 k3 k4 lk1 lk3
  go_wp2_with fail
  refine (Hy.out _).mono ?_
  rintro e W3 ⟨rfl, hb3⟩
  have k9 : W3.cell? ⟨w.heap.size, 0, none⟩ = some (.int .i64 a) := kept_a1 k5 hb3
  have k10 : W3.cell? ⟨w.heap.size, 1, none⟩ = some (.int .i64 b) := kept_a1 k6 hb3
  have k11 : W3.cell? ⟨w.heap.size + 1, 0, none⟩ = some (.int .i64 c) := kept_a1 k7 hb3
  have k12 : W3.cell? ⟨w.heap.size + 1, 1, none⟩ = some (.int .i64 d) := kept_a1 k8 hb3
  have k13 : W3.cell? ⟨W2.heap.size, 0, none⟩ = some (.int .i64 (-a)) := kept1 (by simp [go_sem]) hb3
  have k14 : W3.cell? ⟨W2.heap.size, 1, none⟩ = some (.int .i64 b) := kept1 (by simp [go_sem]) hb3
  have lk9 : w.heap.size < W3.heap.size := block_lt_of_cell k9
  have lk11 : w.heap.size + 1 < W3.heap.size := block_lt_of_cell k11
  have lk13 : W2.heap.size < W3.heap.size := block_lt_of_cell k13
  have hv3 : Below w.heap.size w W3 := bstep1 hv2 hb3
  clear hb3 hv2 k5 k6 k7 k8 lk5 lk7
  go_wp2_with fail
  refine (Hz.out _).mono ?_
  rintro e W4 ⟨rfl, hb4⟩
  have k15 : W4.cell? ⟨w.heap.size, 0, none⟩ = some (.int .i64 a) := kept_a1 k9 hb4
  have k16 : W4.cell? ⟨w.heap.size, 1, none⟩ = some (.int .i64 b) := kept_a1 k10 hb4
  have k17 : W4.cell? ⟨w.heap.size + 1, 0, none⟩ = some (.int .i64 c) := kept_a1 k11 hb4
  have k18 : W4.cell? ⟨w.heap.size + 1, 1, none⟩ = some (.int .i64 d) := kept_a1 k12 hb4
  have k19 : W4.cell? ⟨W2.heap.size, 0, none⟩ = some (.int .i64 (-a)) := kept_a1 k13 hb4
  have k20 : W4.cell? ⟨W2.heap.size, 1, none⟩ = some (.int .i64 b) := kept_a1 k14 hb4
  have k21 : W4.cell? ⟨W3.heap.size, 0, none⟩ = some (.int .i64 y.n) := kept1 (by simp [go_sem]) hb4
  have k22 : W4.cell? ⟨W3.heap.size, 1, none⟩ = some (.int .i64 y.d) := kept1 (by simp [go_sem]) hb4
  have lk15 : w.heap.size < W4.heap.size := block_lt_of_cell k15
  have lk17 : w.heap.size + 1 < W4.heap.size := block_lt_of_cell k17
  have lk19 : W2.heap.size < W4.heap.size := block_lt_of_cell k19
  have lk21 : W3.heap.size < W4.heap.size := block_lt_of_cell k21
  have hv4 : Below w.heap.size w W4 := bstep1 hv3 hb4
  clear hb4 hv3 k9 k10 k11 k12 k13 k14 lk9 lk11 lk13
  go_wp2_with fail
  refine (Hu.out _).mono ?_
  rintro e W5 ⟨rfl, hb5⟩
  have k23 : W5.cell? ⟨w.heap.size, 0, none⟩ = some (.int .i64 a) := kept_a1 k15 hb5
  have k24 : W5.cell? ⟨w.heap.size, 1, none⟩ = some (.int .i64 b) := kept_a1 k16 hb5
  have k25 : W5.cell? ⟨w.heap.size + 1, 0, none⟩ = some (.int .i64 c) := kept_a1 k17 hb5
  have k26 : W5.cell? ⟨w.heap.size + 1, 1, none⟩ = some (.int .i64 d) := kept_a1 k18 hb5
  have k27 : W5.cell? ⟨W2.heap.size, 0, none⟩ = some (.int .i64 (-a)) := kept_a1 k19 hb5
  have k28 : W5.cell? ⟨W2.heap.size, 1, none⟩ = some (.int .i64 b) := kept_a1 k20 hb5
  have k29 : W5.cell? ⟨W3.heap.size, 0, none⟩ = some (.int .i64 y.n) := kept_a1 k21 hb5
  have k30 : W5.cell? ⟨W3.heap.size, 1, none⟩ = some (.int .i64 y.d) := kept_a1 k22 hb5
  have k31 : W5.cell? ⟨W4.heap.size, 0, none⟩ = some (.int .i64 z.n) := kept1 (by simp [go_sem]) hb5
  have k32 : W5.cell? ⟨W4.heap.size, 1, none⟩ = some (.int .i64 z.d) := kept1 (by simp [go_sem]) hb5
  have lk23 : w.heap.size < W5.heap.size := block_lt_of_cell k23
  have lk25 : w.heap.size + 1 < W5.heap.size := block_lt_of_cell k25
  have lk27 : W2.heap.size < W5.heap.size := block_lt_of_cell k27
  have lk29 : W3.heap.size < W5.heap.size := block_lt_of_cell k29
  have lk31 : W4.heap.size < W5.heap.size := block_lt_of_cell k31
  have hv5 : Below w.heap.size w W5 := bstep1 hv4 hb5
  clear hb5 hv4 k15 k16 k17 k18 k19 k20 k21 k22 lk15 lk17 lk19 lk21
  go_wp2_with fail
  refine (Hv.out _).mono ?_
  rintro e W6 ⟨rfl, hb6⟩
  have k33 : W6.cell? ⟨w.heap.size, 0, none⟩ = some (.int .i64 a) := kept_a1 k23 hb6
  have k34 : W6.cell? ⟨w.heap.size, 1, none⟩ = some (.int .i64 b) := kept_a1 k24 hb6
  have k35 : W6.cell? ⟨w.heap.size + 1, 0, none⟩ = some (.int .i64 c) := kept_a1 k25 hb6
  have k36 : W6.cell? ⟨w.heap.size + 1, 1, none⟩ = some (.int .i64 d) := kept_a1 k26 hb6
  have k37 : W6.cell? ⟨W2.heap.size, 0, none⟩ = some (.int .i64 (-a)) := kept_a1 k27 hb6
  have k38 : W6.cell? ⟨W2.heap.size, 1, none⟩ = some (.int .i64 b) := kept_a1 k28 hb6
  have k39 : W6.cell? ⟨W3.heap.size, 0, none⟩ = some (.int .i64 y.n) := kept_a1 k29 hb6
  have k40 : W6.cell? ⟨W3.heap.size, 1, none⟩ = some (.int .i64 y.d) := kept_a1 k30 hb6
  have k41 : W6.cell? ⟨W4.heap.size, 0, none⟩ = some (.int .i64 z.n) := kept_a1 k31 hb6
  have k42 : W6.cell? ⟨W4.heap.size, 1, none⟩ = some (.int .i64 z.d) := kept_a1 k32 hb6
  have k43 : W6.cell? ⟨W5.heap.size, 0, none⟩ = some (.int .i64 u.n) := kept1 (by simp [go_sem]) hb6
  have k44 : W6.cell? ⟨W5.heap.size, 1, none⟩ = some (.int .i64 u.d) := kept1 (by simp [go_sem]) hb6
  have lk33 : w.heap.size < W6.heap.size := block_lt_of_cell k33
  have lk35 : w.heap.size + 1 < W6.heap.size := block_lt_of_cell k35
  have lk37 : W2.heap.size < W6.heap.size := block_lt_of_cell k37
  have lk39 : W3.heap.size < W6.heap.size := block_lt_of_cell k39
  have lk41 : W4.heap.size < W6.heap.size := block_lt_of_cell k41
  have lk43 : W5.heap.size < W6.heap.size := block_lt_of_cell k43
  have hv6 : Below w.heap.size w W6 := bstep1 hv5 hb6
  clear hb6 hv5 k23 k24 k25 k26 k27 k28 k29 k30 k31 k32 lk23 lk25 lk27 lk29 lk31
  go_wp2_with fail
  refine (Hm.out _).mono ?_
  rintro e W7 ⟨rfl, hb7⟩
  have k45 : W7.cell? ⟨w.heap.size, 0, none⟩ = some (.int .i64 a) := kept_a1 k33 hb7
  have k46 : W7.cell? ⟨w.heap.size, 1, none⟩ = some (.int .i64 b) := kept_a1 k34 hb7
  have k47 : W7.cell? ⟨w.heap.size + 1, 0, none⟩ = some (.int .i64 c) := kept_a1 k35 hb7
  have k48 : W7.cell? ⟨w.heap.size + 1, 1, none⟩ = some (.int .i64 d) := kept_a1 k36 hb7
  have k49 : W7.cell? ⟨W2.heap.size, 0, none⟩ = some (.int .i64 (-a)) := kept_a1 k37 hb7
  have k50 : W7.cell? ⟨W2.heap.size, 1, none⟩ = some (.int .i64 b) := kept_a1 k38 hb7
  have k51 : W7.cell? ⟨W3.heap.size, 0, none⟩ = some (.int .i64 y.n) := kept_a1 k39 hb7
  have k52 : W7.cell? ⟨W3.heap.size, 1, none⟩ = some (.int .i64 y.d) := kept_a1 k40 hb7
  have k53 : W7.cell? ⟨W4.heap.size, 0, none⟩ = some (.int .i64 z.n) := kept_a1 k41 hb7
  have k54 : W7.cell? ⟨W4.heap.size, 1, none⟩ = some (.int .i64 z.d) := kept_a1 k42 hb7
  have k55 : W7.cell? ⟨W5.heap.size, 0, none⟩ = some (.int .i64 u.n) := kept_a1 k43 hb7
  have k56 : W7.cell? ⟨W5.heap.size, 1, none⟩ = some (.int .i64 u.d) := kept_a1 k44 hb7
  have k57 : W7.cell? ⟨W6.heap.size, 0, none⟩ = some (.int .i64 v.n) := kept1 (by simp [go_sem]) hb7
  have k58 : W7.cell? ⟨W6.heap.size, 1, none⟩ = some (.int .i64 v.d) := kept1 (by simp [go_sem]) hb7
  have lk45 : w.heap.size < W7.heap.size := block_lt_of_cell k45
  have lk47 : w.heap.size + 1 < W7.heap.size := block_lt_of_cell k47
  have lk49 : W2.heap.size < W7.heap.size := block_lt_of_cell k49
  have lk51 : W3.heap.size < W7.heap.size := block_lt_of_cell k51
  have lk53 : W4.heap.size < W7.heap.size := block_lt_of_cell k53
  have lk55 : W5.heap.size < W7.heap.size := block_lt_of_cell k55
  have lk57 : W6.heap.size < W7.heap.size := block_lt_of_cell k57
  have hv7 : Below w.heap.size w W7 := bstep1 hv6 hb7
  clear hb7 hv6 k33 k34 k35 k36 k37 k38 k39 k40 k41 k42 k43 k44 lk33 lk35 lk37 lk39 lk41 lk43
  go_wp2_with fail
  have k59 : (W7.alloc (Obj.cells #[.int .i64 m.n, .int .i64 m.d] 23)).cell? ⟨w.heap.size, 0, none⟩ = some (.int .i64 a) := (cell_alloc k45 _)
  have k60 : (W7.alloc (Obj.cells #[.int .i64 m.n, .int .i64 m.d] 23)).cell? ⟨w.heap.size, 1, none⟩ = some (.int .i64 b) := (cell_alloc k46 _)
  have k61 : (W7.alloc (Obj.cells #[.int .i64 m.n, .int .i64 m.d] 23)).cell? ⟨w.heap.size + 1, 0, none⟩ = some (.int .i64 c) := (cell_alloc k47 _)
  have k62 : (W7.alloc (Obj.cells #[.int .i64 m.n, .int .i64 m.d] 23)).cell? ⟨w.heap.size + 1, 1, none⟩ = some (.int .i64 d) := (cell_alloc k48 _)
  have k63 : (W7.alloc (Obj.cells #[.int .i64 m.n, .int .i64 m.d] 23)).cell? ⟨W2.heap.size, 0, none⟩ = some (.int .i64 (-a)) := (cell_alloc k49 _)
  have k64 : (W7.alloc (Obj.cells #[.int .i64 m.n, .int .i64 m.d] 23)).cell? ⟨W2.heap.size, 1, none⟩ = some (.int .i64 b) := (cell_alloc k50 _)
  have k65 : (W7.alloc (Obj.cells #[.int .i64 m.n, .int .i64 m.d] 23)).cell? ⟨W3.heap.size, 0, none⟩ = some (.int .i64 y.n) := (cell_alloc k51 _)
  have k66 : (W7.alloc (Obj.cells #[.int .i64 m.n, .int .i64 m.d] 23)).cell? ⟨W3.heap.size, 1, none⟩ = some (.int .i64 y.d) := (cell_alloc k52 _)
  have k67 : (W7.alloc (Obj.cells #[.int .i64 m.n, .int .i64 m.d] 23)).cell? ⟨W4.heap.size, 0, none⟩ = some (.int .i64 z.n) := (cell_alloc k53 _)
  have k68 : (W7.alloc (Obj.cells #[.int .i64 m.n, .int .i64 m.d] 23)).cell? ⟨W4.heap.size, 1, none⟩ = some (.int .i64 z.d) := (cell_alloc k54 _)
  have k69 : (W7.alloc (Obj.cells #[.int .i64 m.n, .int .i64 m.d] 23)).cell? ⟨W5.heap.size, 0, none⟩ = some (.int .i64 u.n) := (cell_alloc k55 _)
  have k70 : (W7.alloc (Obj.cells #[.int .i64 m.n, .int .i64 m.d] 23)).cell? ⟨W5.heap.size, 1, none⟩ = some (.int .i64 u.d) := (cell_alloc k56 _)
  have k71 : (W7.alloc (Obj.cells #[.int .i64 m.n, .int .i64 m.d] 23)).cell? ⟨W6.heap.size, 0, none⟩ = some (.int .i64 v.n) := (cell_alloc k57 _)
  have k72 : (W7.alloc (Obj.cells #[.int .i64 m.n, .int .i64 m.d] 23)).cell? ⟨W6.heap.size, 1, none⟩ = some (.int .i64 v.d) := (cell_alloc k58 _)
  have k73 : (W7.alloc (Obj.cells #[.int .i64 m.n, .int .i64 m.d] 23)).cell? ⟨W7.heap.size, 0, none⟩ = some (.int .i64 m.n) := by simp [go_sem]
  have k74 : (W7.alloc (Obj.cells #[.int .i64 m.n, .int .i64 m.d] 23)).cell? ⟨W7.heap.size, 1, none⟩ = some (.int .i64 m.d) := by simp [go_sem]
  have lk59 : w.heap.size < (W7.alloc (Obj.cells #[.int .i64 m.n, .int .i64 m.d] 23)).heap.size := block_lt_of_cell k59
  have lk61 : w.heap.size + 1 < (W7.alloc (Obj.cells #[.int .i64 m.n, .int .i64 m.d] 23)).heap.size := block_lt_of_cell k61
  have lk63 : W2.heap.size < (W7.alloc (Obj.cells #[.int .i64 m.n, .int .i64 m.d] 23)).heap.size := block_lt_of_cell k63
  have lk65 : W3.heap.size < (W7.alloc (Obj.cells #[.int .i64 m.n, .int .i64 m.d] 23)).heap.size := block_lt_of_cell k65
  have lk67 : W4.heap.size < (W7.alloc (Obj.cells #[.int .i64 m.n, .int .i64 m.d] 23)).heap.size := block_lt_of_cell k67
  have lk69 : W5.heap.size < (W7.alloc (Obj.cells #[.int .i64 m.n, .int .i64 m.d] 23)).heap.size := block_lt_of_cell k69
  have lk71 : W6.heap.size < (W7.alloc (Obj.cells #[.int .i64 m.n, .int .i64 m.d] 23)).heap.size := block_lt_of_cell k71
  have lk73 : W7.heap.size < (W7.alloc (Obj.cells #[.int .i64 m.n, .int .i64 m.d] 23)).heap.size := block_lt_of_cell k73
  have hv8 : Below w.heap.size w (W7.alloc (Obj.cells #[.int .i64 m.n, .int .i64 m.d] 23)) := (below_alloc hv7 _)
  clear hv7 k45 k46 k47 k48 k49 k50 k51 k52 k53 k54 k55 k56 k57 k58 lk45 lk47 lk49 lk51 lk53 lk55 lk57
  generalize (W7.alloc (Obj.cells #[.int .i64 m.n, .int .i64 m.d] 23)) = X8 at *
  have hTX : Hid (Tab X8.drew.heap.size X8.drew) := Lib.hid (Lib.tabBelow_of_tabIs (hT.out.on hv8.drew).here)
  go_cut [86] (fun s86 wx => s86 = .bool false ∧ wx.cell? ⟨w.heap.size, 0, none⟩ = some (.int .i64 a) ∧ wx.cell? ⟨w.heap.size, 1, none⟩ = some (.int .i64 b) ∧ wx.cell? ⟨w.heap.size + 1, 0, none⟩ = some (.int .i64 c) ∧ wx.cell? ⟨w.heap.size + 1, 1, none⟩ = some (.int .i64 d) ∧ wx.cell? ⟨W2.heap.size, 0, none⟩ = some (.int .i64 (-a)) ∧ wx.cell? ⟨W2.heap.size, 1, none⟩ = some (.int .i64 b) ∧ wx.cell? ⟨W3.heap.size, 0, none⟩ = some (.int .i64 y.n) ∧ wx.cell? ⟨W3.heap.size, 1, none⟩ = some (.int .i64 y.d) ∧ wx.cell? ⟨W4.heap.size, 0, none⟩ = some (.int .i64 z.n) ∧ wx.cell? ⟨W4.heap.size, 1, none⟩ = some (.int .i64 z.d) ∧ wx.cell? ⟨W5.heap.size, 0, none⟩ = some (.int .i64 u.n) ∧ wx.cell? ⟨W5.heap.size, 1, none⟩ = some (.int .i64 u.d) ∧ wx.cell? ⟨W6.heap.size, 0, none⟩ = some (.int .i64 v.n) ∧ wx.cell? ⟨W6.heap.size, 1, none⟩ = some (.int .i64 v.d) ∧ wx.cell? ⟨W7.heap.size, 0, none⟩ = some (.int .i64 m.n) ∧ wx.cell? ⟨W7.heap.size, 1, none⟩ = some (.int .i64 m.d) ∧ Below w.heap.size w wx)
  case first =>
    have hvd : Below w.heap.size w X8.drew := hv8.drew
    have hu : undef = Value.tuple #[] := rfl
    first | (go_region_with (first
        | (go_at_call 22
           refine (KV.out _).mono ?_
           rintro e wp ⟨he, hbp⟩
           subst he
           have q0 : wp.cell? ⟨w.heap.size, 0, none⟩ = some (.int .i64 a) := kept1 (by assumption) hbp
           have q1 : wp.cell? ⟨w.heap.size, 1, none⟩ = some (.int .i64 b) := kept1 (by assumption) hbp
           have q2 : wp.cell? ⟨w.heap.size + 1, 0, none⟩ = some (.int .i64 c) := kept1 (by assumption) hbp
           have q3 : wp.cell? ⟨w.heap.size + 1, 1, none⟩ = some (.int .i64 d) := kept1 (by assumption) hbp
           have q4 : wp.cell? ⟨W2.heap.size, 0, none⟩ = some (.int .i64 (-a)) := kept1 (by assumption) hbp
           have q5 : wp.cell? ⟨W2.heap.size, 1, none⟩ = some (.int .i64 b) := kept1 (by assumption) hbp
           have q6 : wp.cell? ⟨W3.heap.size, 0, none⟩ = some (.int .i64 y.n) := kept1 (by assumption) hbp
           have q7 : wp.cell? ⟨W3.heap.size, 1, none⟩ = some (.int .i64 y.d) := kept1 (by assumption) hbp
           have q8 : wp.cell? ⟨W4.heap.size, 0, none⟩ = some (.int .i64 z.n) := kept1 (by assumption) hbp
           have q9 : wp.cell? ⟨W4.heap.size, 1, none⟩ = some (.int .i64 z.d) := kept1 (by assumption) hbp
           have q10 : wp.cell? ⟨W5.heap.size, 0, none⟩ = some (.int .i64 u.n) := kept1 (by assumption) hbp
           have q11 : wp.cell? ⟨W5.heap.size, 1, none⟩ = some (.int .i64 u.d) := kept1 (by assumption) hbp
           have q12 : wp.cell? ⟨W6.heap.size, 0, none⟩ = some (.int .i64 v.n) := kept1 (by assumption) hbp
           have q13 : wp.cell? ⟨W6.heap.size, 1, none⟩ = some (.int .i64 v.d) := kept1 (by assumption) hbp
           have q14 : wp.cell? ⟨W7.heap.size, 0, none⟩ = some (.int .i64 m.n) := kept1 (by assumption) hbp
           have q15 : wp.cell? ⟨W7.heap.size, 1, none⟩ = some (.int .i64 m.d) := kept1 (by assumption) hbp
           have hvp : Below w.heap.size w wp := keep0 (by assumption) hbp
           skip)
        | (go_at_call 30
           refine (KN.out _).mono ?_
           rintro e wp ⟨he, hbp⟩
           subst he
           have q0 : wp.cell? ⟨w.heap.size, 0, none⟩ = some (.int .i64 a) := kept1 (by assumption) hbp
           have q1 : wp.cell? ⟨w.heap.size, 1, none⟩ = some (.int .i64 b) := kept1 (by assumption) hbp
           have q2 : wp.cell? ⟨w.heap.size + 1, 0, none⟩ = some (.int .i64 c) := kept1 (by assumption) hbp
           have q3 : wp.cell? ⟨w.heap.size + 1, 1, none⟩ = some (.int .i64 d) := kept1 (by assumption) hbp
           have q4 : wp.cell? ⟨W2.heap.size, 0, none⟩ = some (.int .i64 (-a)) := kept1 (by assumption) hbp
           have q5 : wp.cell? ⟨W2.heap.size, 1, none⟩ = some (.int .i64 b) := kept1 (by assumption) hbp
           have q6 : wp.cell? ⟨W3.heap.size, 0, none⟩ = some (.int .i64 y.n) := kept1 (by assumption) hbp
           have q7 : wp.cell? ⟨W3.heap.size, 1, none⟩ = some (.int .i64 y.d) := kept1 (by assumption) hbp
           have q8 : wp.cell? ⟨W4.heap.size, 0, none⟩ = some (.int .i64 z.n) := kept1 (by assumption) hbp
           have q9 : wp.cell? ⟨W4.heap.size, 1, none⟩ = some (.int .i64 z.d) := kept1 (by assumption) hbp
           have q10 : wp.cell? ⟨W5.heap.size, 0, none⟩ = some (.int .i64 u.n) := kept1 (by assumption) hbp
           have q11 : wp.cell? ⟨W5.heap.size, 1, none⟩ = some (.int .i64 u.d) := kept1 (by assumption) hbp
           have q12 : wp.cell? ⟨W6.heap.size, 0, none⟩ = some (.int .i64 v.n) := kept1 (by assumption) hbp
           have q13 : wp.cell? ⟨W6.heap.size, 1, none⟩ = some (.int .i64 v.d) := kept1 (by assumption) hbp
           have q14 : wp.cell? ⟨W7.heap.size, 0, none⟩ = some (.int .i64 m.n) := kept1 (by assumption) hbp
           have q15 : wp.cell? ⟨W7.heap.size, 1, none⟩ = some (.int .i64 m.d) := kept1 (by assumption) hbp
           have hvp : Below w.heap.size w wp := keep0 (by assumption) hbp
           skip))) | fail
    all_goals
      go_wp2_with fail
      go_meet
      exact ⟨rfl, q0, q1, q2, q3, q4, q5, q6, q7, q8, q9, q10, q11, q12, q13, q14, q15, hvp⟩
  case rest =>
    generalize wc = V9 at hcut ⊢
    clear wc
    obtain ⟨rfl, k75, k76, k77, k78, k79, k80, k81, k82, k83, k84, k85, k86, k87, k88, k89, k90, hv9⟩ := hcut
    clear hv8 k59 k60 k61 k62 k63 k64 k65 k66 k67 k68 k69 k70 k71 k72 k73 k74 lk59 lk61 lk63 lk65 lk67 lk69 lk71 lk73
    have lk75 : w.heap.size < V9.heap.size := block_lt_of_cell k75
    have lk77 : w.heap.size + 1 < V9.heap.size := block_lt_of_cell k77
    have lk79 : W2.heap.size < V9.heap.size := block_lt_of_cell k79
    have lk81 : W3.heap.size < V9.heap.size := block_lt_of_cell k81
    have lk83 : W4.heap.size < V9.heap.size := block_lt_of_cell k83
    have lk85 : W5.heap.size < V9.heap.size := block_lt_of_cell k85
    have lk87 : W6.heap.size < V9.heap.size := block_lt_of_cell k87
    have lk89 : W7.heap.size < V9.heap.size := block_lt_of_cell k89
    go_wp2_with fail
    refine (KW.out _).mono ?_
    rintro e W10 ⟨rfl, hb10⟩
    have k91 : W10.cell? ⟨w.heap.size, 0, none⟩ = some (.int .i64 a) := kept_a1 k75 hb10
    have k92 : W10.cell? ⟨w.heap.size, 1, none⟩ = some (.int .i64 b) := kept_a1 k76 hb10
    have k93 : W10.cell? ⟨w.heap.size + 1, 0, none⟩ = some (.int .i64 c) := kept_a1 k77 hb10
    have k94 : W10.cell? ⟨w.heap.size + 1, 1, none⟩ = some (.int .i64 d) := kept_a1 k78 hb10
    have k95 : W10.cell? ⟨W2.heap.size, 0, none⟩ = some (.int .i64 (-a)) := kept_a1 k79 hb10
    have k96 : W10.cell? ⟨W2.heap.size, 1, none⟩ = some (.int .i64 b) := kept_a1 k80 hb10
    have k97 : W10.cell? ⟨W3.heap.size, 0, none⟩ = some (.int .i64 y.n) := kept_a1 k81 hb10
    have k98 : W10.cell? ⟨W3.heap.size, 1, none⟩ = some (.int .i64 y.d) := kept_a1 k82 hb10
    have k99 : W10.cell? ⟨W4.heap.size, 0, none⟩ = some (.int .i64 z.n) := kept_a1 k83 hb10
    have k100 : W10.cell? ⟨W4.heap.size, 1, none⟩ = some (.int .i64 z.d) := kept_a1 k84 hb10
    have k101 : W10.cell? ⟨W5.heap.size, 0, none⟩ = some (.int .i64 u.n) := kept_a1 k85 hb10
    have k102 : W10.cell? ⟨W5.heap.size, 1, none⟩ = some (.int .i64 u.d) := kept_a1 k86 hb10
    have k103 : W10.cell? ⟨W6.heap.size, 0, none⟩ = some (.int .i64 v.n) := kept_a1 k87 hb10
    have k104 : W10.cell? ⟨W6.heap.size, 1, none⟩ = some (.int .i64 v.d) := kept_a1 k88 hb10
    have k105 : W10.cell? ⟨W7.heap.size, 0, none⟩ = some (.int .i64 m.n) := kept_a1 k89 hb10
    have k106 : W10.cell? ⟨W7.heap.size, 1, none⟩ = some (.int .i64 m.d) := kept_a1 k90 hb10
    have k107 : W10.cell? ⟨V9.heap.size, 0, none⟩ = some (.int .i64 0) := kept1 (by simp [go_sem]) hb10
    have k108 : W10.cell? ⟨V9.heap.size, 1, none⟩ = some (.int .i64 0) := kept1 (by simp [go_sem]) hb10
    have k109 : W10.cell? ⟨V9.heap.size, 2, none⟩ = some (.int .i64 1) := kept1 (by simp [go_sem]) hb10
    have lk91 : w.heap.size < W10.heap.size := block_lt_of_cell k91
    have lk93 : w.heap.size + 1 < W10.heap.size := block_lt_of_cell k93
    have lk95 : W2.heap.size < W10.heap.size := block_lt_of_cell k95
    have lk97 : W3.heap.size < W10.heap.size := block_lt_of_cell k97
    have lk99 : W4.heap.size < W10.heap.size := block_lt_of_cell k99
    have lk101 : W5.heap.size < W10.heap.size := block_lt_of_cell k101
    have lk103 : W6.heap.size < W10.heap.size := block_lt_of_cell k103
    have lk105 : W7.heap.size < W10.heap.size := block_lt_of_cell k105
    have lk107 : V9.heap.size < W10.heap.size := block_lt_of_cell k107
    have hv10 : Below w.heap.size w W10 := bstep1 hv9 hb10
    clear hb10 hv9 k75 k76 k77 k78 k79 k80 k81 k82 k83 k84 k85 k86 k87 k88 k89 k90 lk75 lk77 lk79 lk81 lk83 lk85 lk87 lk89
    go_wp2_with fail
    have hTX : Hid (Tab W10.drew.heap.size W10.drew) := Lib.hid (Lib.tabBelow_of_tabIs (hT.out.on hv10.drew).here)
    have S0 : W10.drew.cell? ⟨w.heap.size, 0, none⟩ = some (.int .i64 a) ∧ W10.drew.cell? ⟨w.heap.size, 1, none⟩ = some (.int .i64 b) ∧ W10.drew.cell? ⟨w.heap.size + 1, 0, none⟩ = some (.int .i64 c) ∧ W10.drew.cell? ⟨w.heap.size + 1, 1, none⟩ = some (.int .i64 d) ∧ W10.drew.cell? ⟨W2.heap.size, 0, none⟩ = some (.int .i64 (-a)) ∧ W10.drew.cell? ⟨W2.heap.size, 1, none⟩ = some (.int .i64 b) ∧ W10.drew.cell? ⟨W3.heap.size, 0, none⟩ = some (.int .i64 y.n) ∧ W10.drew.cell? ⟨W3.heap.size, 1, none⟩ = some (.int .i64 y.d) ∧ W10.drew.cell? ⟨W4.heap.size, 0, none⟩ = some (.int .i64 z.n) ∧ W10.drew.cell? ⟨W4.heap.size, 1, none⟩ = some (.int .i64 z.d) ∧ W10.drew.cell? ⟨W5.heap.size, 0, none⟩ = some (.int .i64 u.n) ∧ W10.drew.cell? ⟨W5.heap.size, 1, none⟩ = some (.int .i64 u.d) ∧ W10.drew.cell? ⟨W6.heap.size, 0, none⟩ = some (.int .i64 v.n) ∧ W10.drew.cell? ⟨W6.heap.size, 1, none⟩ = some (.int .i64 v.d) ∧ W10.drew.cell? ⟨W7.heap.size, 0, none⟩ = some (.int .i64 m.n) ∧ W10.drew.cell? ⟨W7.heap.size, 1, none⟩ = some (.int .i64 m.d) ∧ W10.drew.cell? ⟨V9.heap.size, 0, none⟩ = some (.int .i64 0) ∧ W10.drew.cell? ⟨V9.heap.size, 1, none⟩ = some (.int .i64 0) ∧ W10.drew.cell? ⟨V9.heap.size, 2, none⟩ = some (.int .i64 1) ∧ Below w.heap.size w W10.drew := ⟨by assumption, by assumption, by assumption, by assumption, by assumption, by assumption, by assumption, by assumption, by assumption, by assumption, by assumption, by assumption, by assumption, by assumption, by assumption, by assumption, by assumption, by assumption, by assumption, hv10.drew⟩
    go_region_held3 (fun w' => w'.cell? ⟨w.heap.size, 0, none⟩ = some (.int .i64 a) ∧ w'.cell? ⟨w.heap.size, 1, none⟩ = some (.int .i64 b) ∧ w'.cell? ⟨w.heap.size + 1, 0, none⟩ = some (.int .i64 c) ∧ w'.cell? ⟨w.heap.size + 1, 1, none⟩ = some (.int .i64 d) ∧ w'.cell? ⟨W2.heap.size, 0, none⟩ = some (.int .i64 (-a)) ∧ w'.cell? ⟨W2.heap.size, 1, none⟩ = some (.int .i64 b) ∧ w'.cell? ⟨W3.heap.size, 0, none⟩ = some (.int .i64 y.n) ∧ w'.cell? ⟨W3.heap.size, 1, none⟩ = some (.int .i64 y.d) ∧ w'.cell? ⟨W4.heap.size, 0, none⟩ = some (.int .i64 z.n) ∧ w'.cell? ⟨W4.heap.size, 1, none⟩ = some (.int .i64 z.d) ∧ w'.cell? ⟨W5.heap.size, 0, none⟩ = some (.int .i64 u.n) ∧ w'.cell? ⟨W5.heap.size, 1, none⟩ = some (.int .i64 u.d) ∧ w'.cell? ⟨W6.heap.size, 0, none⟩ = some (.int .i64 v.n) ∧ w'.cell? ⟨W6.heap.size, 1, none⟩ = some (.int .i64 v.d) ∧ w'.cell? ⟨W7.heap.size, 0, none⟩ = some (.int .i64 m.n) ∧ w'.cell? ⟨W7.heap.size, 1, none⟩ = some (.int .i64 m.d) ∧ w'.cell? ⟨V9.heap.size, 0, none⟩ = some (.int .i64 0) ∧ w'.cell? ⟨V9.heap.size, 1, none⟩ = some (.int .i64 0) ∧ w'.cell? ⟨V9.heap.size, 2, none⟩ = some (.int .i64 1) ∧ Below w.heap.size w w')
      (first | exact S0 | exact keep19 (by assumption) hbp | exact keep19 (by assumption) (drewN_below _) | exact keep19 (by assumption) (by repeat (first | with_reducible exact Below.refl _ _ | with_reducible assumption | refine below_drewN ?_ _ | refine Below.drew ?_ | refine Below.alloc ?_ (by first | (simp; done) | (simp; omega) | omega) _ | refine Below.setCell ?_ (by first | (simp; done) | (simp; omega) | omega) _ | refine Below.trans ?_ (Below.mono (by assumption) (by first | (simp; done) | (simp; omega) | omega)))) | go_keep)
      (first
        | (go_at_call 18
           refine (sanity_any _ hTX).mono ?_
           rintro e wp ⟨he, hbp⟩
           subst he)
        | (go_at_call 32
           refine (KC.out _).mono ?_
           rintro e wp ⟨he, hbp⟩
           subst he)
        | (go_at_call 33
           refine (Ky.out _).mono ?_
           rintro e wp ⟨he, hbp⟩
           subst he)
        | (go_at_call 34
           refine (Kz.out _).mono ?_
           rintro e wp ⟨he, hbp⟩
           subst he)
        | (go_at_call 35
           refine (Ku.out _).mono ?_
           rintro e wp ⟨he, hbp⟩
           subst he)
        | (go_at_call 36
           refine (Kv.out _).mono ?_
           rintro e wp ⟨he, hbp⟩
           subst he)
        | (go_at_call 37
           refine (Km.out _).mono ?_
           rintro e wp ⟨he, hbp⟩
           subst he)
        | (go_at_call 19
           refine (is_yes _ _ _ _).mono ?_
           rintro e wp ⟨he, hbp⟩
           subst he))
    all_goals
      go_split_ands
      go_wp2
      go_ret
      exact ⟨by first | rfl | simp, by assumption⟩

end Go.Proofs.YtpbomeoonknifaaDoor
