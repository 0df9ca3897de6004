/- The law ExactSums, a case. -/
import Derived.Test.YtpbomeoonknifaaDoorSz
namespace Go.Proofs.YtpbomeoonknifaaDoor
open Go.RowKit Go.Shelf

set_option maxRecDepth 100000 in
set_option maxHeartbeats 8000000 in
theorem sums_bad1 (a b c d : Int) (HC : Hid (∀ W : World, Calls Tryd.prog 23 #[.agg #[.int .i64 a, .int .i64 b], .agg #[.int .i64 c, .int .i64 d]] W fun e w' => e = .returned (.tuple #[.int .i64 0, .int .i64 1]) ∧ Below W.heap.size W w')) (HN : Hid (∀ W : World, Calls Tryd.prog 24 #[.agg #[.int .i64 a, .int .i64 b]] W fun e w' => e = .returned (.tuple #[.agg #[.int .i64 0, .int .i64 0], .int .i64 1]) ∧ Below W.heap.size W w')) (Hy : Hid (∀ W : World, Calls Tryd.prog 25 #[.agg #[.int .i64 a, .int .i64 b], .agg #[.int .i64 c, .int .i64 d]] W fun e w' => e = .returned (.tuple #[.agg #[.int .i64 0, .int .i64 0], .int .i64 1]) ∧ Below W.heap.size W w')) (Hz : Hid (∀ W : World, Calls Tryd.prog 26 #[.agg #[.int .i64 a, .int .i64 b], .agg #[.int .i64 c, .int .i64 d]] W fun e w' => e = .returned (.tuple #[.agg #[.int .i64 0, .int .i64 0], .int .i64 1]) ∧ Below W.heap.size W w')) (Hu : Hid (∀ W : World, Calls Tryd.prog 27 #[.agg #[.int .i64 a, .int .i64 b], .agg #[.int .i64 c, .int .i64 d]] W fun e w' => e = .returned (.tuple #[.agg #[.int .i64 0, .int .i64 0], .int .i64 1]) ∧ Below W.heap.size W w')) (Hv : Hid (∀ W : World, Calls Tryd.prog 28 #[.agg #[.int .i64 a, .int .i64 b], .agg #[.int .i64 c, .int .i64 d]] W fun e w' => e = .returned (.tuple #[.agg #[.int .i64 0, .int .i64 0], .int .i64 1]) ∧ Below W.heap.size W w')) (Hm : Hid (∀ W : World, Calls Tryd.prog 29 #[.agg #[.int .i64 a, .int .i64 b], .agg #[.int .i64 c, .int .i64 d]] W fun e w' => e = .returned (.tuple #[.agg #[.int .i64 0, .int .i64 0], .int .i64 1]) ∧ Below W.heap.size W w')) (KV : Hid (∀ W : World, Calls Tryd.prog 22 #[.agg #[.int .i64 a, .int .i64 b]] W fun e w' => e = .returned (.bool false) ∧ Below W.heap.size W w')) (KW : Hid (∀ W : World, Calls Tryd.prog 31 #[.agg #[.int .i64 a, .int .i64 b], .agg #[.int .i64 c, .int .i64 d]] W fun e w' => e = .returned (.bool true) ∧ Below W.heap.size W w')) (w : World) (hT : Hid (Tab w.heap.size w)) :
    Calls Tryd.prog 4 #[.agg #[.int .i64 a, .int .i64 b], .agg #[.int .i64 c, .int .i64 d]] w fun e w' => e = .returned (.bool true) ∧ Below w.heap.size w w' := by
  go_enter Tryd.func4, Tryd.ntmps4
  go_wp2_with fail
  refine (HC.out _).mono ?_
  rintro e W1 ⟨rfl, hb1⟩
  have k1 : W1.cell? ⟨w.heap.size, 0, none⟩ = some (.int .i64 a) := kept1 (by simp [go_sem]) hb1
  have k2 : W1.cell? ⟨w.heap.size, 1, none⟩ = some (.int .i64 b) := kept1 (by simp [go_sem]) hb1
  have k3 : W1.cell? ⟨w.heap.size + 1, 0, none⟩ = some (.int .i64 c) := kept1 (by simp [go_sem]) hb1
  have k4 : W1.cell? ⟨w.heap.size + 1, 1, none⟩ = some (.int .i64 d) := kept1 (by simp [go_sem]) hb1
  have lk1 : w.heap.size < W1.heap.size := block_lt_of_cell k1
  have lk3 : w.heap.size + 1 < W1.heap.size := block_lt_of_cell k3
  have hv1 : Below w.heap.size w W1 := bstep2 (Below.refl _ _) hb1
  clear hb1  
  go_wp2_with fail
  refine (HN.out _).mono ?_
  rintro e W2 ⟨rfl, hb2⟩
  have k5 : W2.cell? ⟨w.heap.size, 0, none⟩ = some (.int .i64 a) := kept1 k1 hb2
  have k6 : W2.cell? ⟨w.heap.size, 1, none⟩ = some (.int .i64 b) := kept1 k2 hb2
  have k7 : W2.cell? ⟨w.heap.size + 1, 0, none⟩ = some (.int .i64 c) := kept1 k3 hb2
  have k8 : W2.cell? ⟨w.heap.size + 1, 1, none⟩ = some (.int .i64 d) := kept1 k4 hb2
  have lk5 : w.heap.size < W2.heap.size := block_lt_of_cell k5
  have lk7 : w.heap.size + 1 < W2.heap.size := block_lt_of_cell k7
  have hv2 : Below w.heap.size w W2 := bstep0 hv1 hb2
  clear hb2 hv1 k1 k2 k3 k4 lk1 lk3
  go_wp2_with fail
  refine (Hy.out _).mono ?_
  rintro e W3 ⟨rfl, hb3⟩
  have k9 : W3.cell? ⟨w.heap.size, 0, none⟩ = some (.int .i64 a) := kept_a1 k5 hb3
  have k10 : W3.cell? ⟨w.heap.size, 1, none⟩ = some (.int .i64 b) := kept_a1 k6 hb3
  have k11 : W3.cell? ⟨w.heap.size + 1, 0, none⟩ = some (.int .i64 c) := kept_a1 k7 hb3
  have k12 : W3.cell? ⟨w.heap.size + 1, 1, none⟩ = some (.int .i64 d) := kept_a1 k8 hb3
  have k13 : W3.cell? ⟨W2.heap.size, 0, none⟩ = some (.int .i64 0) := kept1 (by simp [go_sem]) hb3
  have k14 : W3.cell? ⟨W2.heap.size, 1, none⟩ = some (.int .i64 0) := kept1 (by simp [go_sem]) hb3
  have lk9 : w.heap.size < W3.heap.size := block_lt_of_cell k9
  have lk11 : w.heap.size + 1 < W3.heap.size := block_lt_of_cell k11
  have lk13 : W2.heap.size < W3.heap.size := block_lt_of_cell k13
  have hv3 : Below w.heap.size w W3 := bstep1 hv2 hb3
  clear hb3 hv2 k5 k6 k7 k8 lk5 lk7
  go_wp2_with fail
  refine (Hz.out _).mono ?_
  rintro e W4 ⟨rfl, hb4⟩
  have k15 : W4.cell? ⟨w.heap.size, 0, none⟩ = some (.int .i64 a) := kept_a1 k9 hb4
  have k16 : W4.cell? ⟨w.heap.size, 1, none⟩ = some (.int .i64 b) := kept_a1 k10 hb4
  have k17 : W4.cell? ⟨w.heap.size + 1, 0, none⟩ = some (.int .i64 c) := kept_a1 k11 hb4
  have k18 : W4.cell? ⟨w.heap.size + 1, 1, none⟩ = some (.int .i64 d) := kept_a1 k12 hb4
  have k19 : W4.cell? ⟨W2.heap.size, 0, none⟩ = some (.int .i64 0) := kept_a1 k13 hb4
  have k20 : W4.cell? ⟨W2.heap.size, 1, none⟩ = some (.int .i64 0) := kept_a1 k14 hb4
  have k21 : W4.cell? ⟨W3.heap.size, 0, none⟩ = some (.int .i64 0) := kept1 (by simp [go_sem]) hb4
  have k22 : W4.cell? ⟨W3.heap.size, 1, none⟩ = some (.int .i64 0) := kept1 (by simp [go_sem]) hb4
  have lk15 : w.heap.size < W4.heap.size := block_lt_of_cell k15
  have lk17 : w.heap.size + 1 < W4.heap.size := block_lt_of_cell k17
  have lk19 : W2.heap.size < W4.heap.size := block_lt_of_cell k19
  have lk21 : W3.heap.size < W4.heap.size := block_lt_of_cell k21
  have hv4 : Below w.heap.size w W4 := bstep1 hv3 hb4
  clear hb4 hv3 k9 k10 k11 k12 k13 k14 lk9 lk11 lk13
  go_wp2_with fail
  refine (Hu.out _).mono ?_
  rintro e W5 ⟨rfl, hb5⟩
  have k23 : W5.cell? ⟨w.heap.size, 0, none⟩ = some (.int .i64 a) := kept_a1 k15 hb5
  have k24 : W5.cell? ⟨w.heap.size, 1, none⟩ = some (.int .i64 b) := kept_a1 k16 hb5
  have k25 : W5.cell? ⟨w.heap.size + 1, 0, none⟩ = some (.int .i64 c) := kept_a1 k17 hb5
  have k26 : W5.cell? ⟨w.heap.size + 1, 1, none⟩ = some (.int .i64 d) := kept_a1 k18 hb5
  have k27 : W5.cell? ⟨W2.heap.size, 0, none⟩ = some (.int .i64 0) := kept_a1 k19 hb5
  have k28 : W5.cell? ⟨W2.heap.size, 1, none⟩ = some (.int .i64 0) := kept_a1 k20 hb5
  have k29 : W5.cell? ⟨W3.heap.size, 0, none⟩ = some (.int .i64 0) := kept_a1 k21 hb5
  have k30 : W5.cell? ⟨W3.heap.size, 1, none⟩ = some (.int .i64 0) := kept_a1 k22 hb5
  have k31 : W5.cell? ⟨W4.heap.size, 0, none⟩ = some (.int .i64 0) := kept1 (by simp [go_sem]) hb5
  have k32 : W5.cell? ⟨W4.heap.size, 1, none⟩ = some (.int .i64 0) := kept1 (by simp [go_sem]) hb5
  have lk23 : w.heap.size < W5.heap.size := block_lt_of_cell k23
  have lk25 : w.heap.size + 1 < W5.heap.size := block_lt_of_cell k25
  have lk27 : W2.heap.size < W5.heap.size := block_lt_of_cell k27
  have lk29 : W3.heap.size < W5.heap.size := block_lt_of_cell k29
  have lk31 : W4.heap.size < W5.heap.size := block_lt_of_cell k31
  have hv5 : Below w.heap.size w W5 := bstep1 hv4 hb5
  clear hb5 hv4 k15 k16 k17 k18 k19 k20 k21 k22 lk15 lk17 lk19 lk21
  go_wp2_with fail
  refine (Hv.out _).mono ?_
  rintro e W6 ⟨rfl, hb6⟩
  have k33 : W6.cell? ⟨w.heap.size, 0, none⟩ = some (.int .i64 a) := kept_a1 k23 hb6
  have k34 : W6.cell? ⟨w.heap.size, 1, none⟩ = some (.int .i64 b) := kept_a1 k24 hb6
  have k35 : W6.cell? ⟨w.heap.size + 1, 0, none⟩ = some (.int .i64 c) := kept_a1 k25 hb6
  have k36 : W6.cell? ⟨w.heap.size + 1, 1, none⟩ = some (.int .i64 d) := kept_a1 k26 hb6
  have k37 : W6.cell? ⟨W2.heap.size, 0, none⟩ = some (.int .i64 0) := kept_a1 k27 hb6
  have k38 : W6.cell? ⟨W2.heap.size, 1, none⟩ = some (.int .i64 0) := kept_a1 k28 hb6
  have k39 : W6.cell? ⟨W3.heap.size, 0, none⟩ = some (.int .i64 0) := kept_a1 k29 hb6
  have k40 : W6.cell? ⟨W3.heap.size, 1, none⟩ = some (.int .i64 0) := kept_a1 k30 hb6
  have k41 : W6.cell? ⟨W4.heap.size, 0, none⟩ = some (.int .i64 0) := kept_a1 k31 hb6
  have k42 : W6.cell? ⟨W4.heap.size, 1, none⟩ = some (.int .i64 0) := kept_a1 k32 hb6
  have k43 : W6.cell? ⟨W5.heap.size, 0, none⟩ = some (.int .i64 0) := kept1 (by simp [go_sem]) hb6
  have k44 : W6.cell? ⟨W5.heap.size, 1, none⟩ = some (.int .i64 0) := kept1 (by simp [go_sem]) hb6
  have lk33 : w.heap.size < W6.heap.size := block_lt_of_cell k33
  have lk35 : w.heap.size + 1 < W6.heap.size := block_lt_of_cell k35
  have lk37 : W2.heap.size < W6.heap.size := block_lt_of_cell k37
  have lk39 : W3.heap.size < W6.heap.size := block_lt_of_cell k39
  have lk41 : W4.heap.size < W6.heap.size := block_lt_of_cell k41
  have lk43 : W5.heap.size < W6.heap.size := block_lt_of_cell k43
  have hv6 : Below w.heap.size w W6 := bstep1 hv5 hb6
  clear hb6 hv5 k23 k24 k25 k26 k27 k28 k29 k30 k31 k32 lk23 lk25 lk27 lk29 lk31
  go_wp2_with fail
  refine (Hm.out _).mono ?_
  rintro e W7 ⟨rfl, hb7⟩
  have k45 : W7.cell? ⟨w.heap.size, 0, none⟩ = some (.int .i64 a) := kept_a1 k33 hb7
  have k46 : W7.cell? ⟨w.heap.size, 1, none⟩ = some (.int .i64 b) := kept_a1 k34 hb7
  have k47 : W7.cell? ⟨w.heap.size + 1, 0, none⟩ = some (.int .i64 c) := kept_a1 k35 hb7
  have k48 : W7.cell? ⟨w.heap.size + 1, 1, none⟩ = some (.int .i64 d) := kept_a1 k36 hb7
  have k49 : W7.cell? ⟨W2.heap.size, 0, none⟩ = some (.int .i64 0) := kept_a1 k37 hb7
  have k50 : W7.cell? ⟨W2.heap.size, 1, none⟩ = some (.int .i64 0) := kept_a1 k38 hb7
  have k51 : W7.cell? ⟨W3.heap.size, 0, none⟩ = some (.int .i64 0) := kept_a1 k39 hb7
  have k52 : W7.cell? ⟨W3.heap.size, 1, none⟩ = some (.int .i64 0) := kept_a1 k40 hb7
  have k53 : W7.cell? ⟨W4.heap.size, 0, none⟩ = some (.int .i64 0) := kept_a1 k41 hb7
  have k54 : W7.cell? ⟨W4.heap.size, 1, none⟩ = some (.int .i64 0) := kept_a1 k42 hb7
  have k55 : W7.cell? ⟨W5.heap.size, 0, none⟩ = some (.int .i64 0) := kept_a1 k43 hb7
  have k56 : W7.cell? ⟨W5.heap.size, 1, none⟩ = some (.int .i64 0) := kept_a1 k44 hb7
  have k57 : W7.cell? ⟨W6.heap.size, 0, none⟩ = some (.int .i64 0) := kept1 (by simp [go_sem]) hb7
  have k58 : W7.cell? ⟨W6.heap.size, 1, none⟩ = some (.int .i64 0) := kept1 (by simp [go_sem]) hb7
  have lk45 : w.heap.size < W7.heap.size := block_lt_of_cell k45
  have lk47 : w.heap.size + 1 < W7.heap.size := block_lt_of_cell k47
  have lk49 : W2.heap.size < W7.heap.size := block_lt_of_cell k49
  have lk51 : W3.heap.size < W7.heap.size := block_lt_of_cell k51
  have lk53 : W4.heap.size < W7.heap.size := block_lt_of_cell k53
  have lk55 : W5.heap.size < W7.heap.size := block_lt_of_cell k55
  have lk57 : W6.heap.size < W7.heap.size := block_lt_of_cell k57
  have hv7 : Below w.heap.size w W7 := bstep1 hv6 hb7
  clear hb7 hv6 k33 k34 k35 k36 k37 k38 k39 k40 k41 k42 k43 k44 lk33 lk35 lk37 lk39 lk41 lk43
  go_wp2_with fail
  have k59 : (W7.alloc (Obj.cells #[.int .i64 0, .int .i64 0] 23)).cell? ⟨w.heap.size, 0, none⟩ = some (.int .i64 a) := (cell_alloc k45 _)
  have k60 : (W7.alloc (Obj.cells #[.int .i64 0, .int .i64 0] 23)).cell? ⟨w.heap.size, 1, none⟩ = some (.int .i64 b) := (cell_alloc k46 _)
  have k61 : (W7.alloc (Obj.cells #[.int .i64 0, .int .i64 0] 23)).cell? ⟨w.heap.size + 1, 0, none⟩ = some (.int .i64 c) := (cell_alloc k47 _)
  have k62 : (W7.alloc (Obj.cells #[.int .i64 0, .int .i64 0] 23)).cell? ⟨w.heap.size + 1, 1, none⟩ = some (.int .i64 d) := (cell_alloc k48 _)
  have k63 : (W7.alloc (Obj.cells #[.int .i64 0, .int .i64 0] 23)).cell? ⟨W2.heap.size, 0, none⟩ = some (.int .i64 0) := (cell_alloc k49 _)
  have k64 : (W7.alloc (Obj.cells #[.int .i64 0, .int .i64 0] 23)).cell? ⟨W2.heap.size, 1, none⟩ = some (.int .i64 0) := (cell_alloc k50 _)
  have k65 : (W7.alloc (Obj.cells #[.int .i64 0, .int .i64 0] 23)).cell? ⟨W3.heap.size, 0, none⟩ = some (.int .i64 0) := (cell_alloc k51 _)
  have k66 : (W7.alloc (Obj.cells #[.int .i64 0, .int .i64 0] 23)).cell? ⟨W3.heap.size, 1, none⟩ = some (.int .i64 0) := (cell_alloc k52 _)
  have k67 : (W7.alloc (Obj.cells #[.int .i64 0, .int .i64 0] 23)).cell? ⟨W4.heap.size, 0, none⟩ = some (.int .i64 0) := (cell_alloc k53 _)
  have k68 : (W7.alloc (Obj.cells #[.int .i64 0, .int .i64 0] 23)).cell? ⟨W4.heap.size, 1, none⟩ = some (.int .i64 0) := (cell_alloc k54 _)
  have k69 : (W7.alloc (Obj.cells #[.int .i64 0, .int .i64 0] 23)).cell? ⟨W5.heap.size, 0, none⟩ = some (.int .i64 0) := (cell_alloc k55 _)
  have k70 : (W7.alloc (Obj.cells #[.int .i64 0, .int .i64 0] 23)).cell? ⟨W5.heap.size, 1, none⟩ = some (.int .i64 0) := (cell_alloc k56 _)
  have k71 : (W7.alloc (Obj.cells #[.int .i64 0, .int .i64 0] 23)).cell? ⟨W6.heap.size, 0, none⟩ = some (.int .i64 0) := (cell_alloc k57 _)
  have k72 : (W7.alloc (Obj.cells #[.int .i64 0, .int .i64 0] 23)).cell? ⟨W6.heap.size, 1, none⟩ = some (.int .i64 0) := (cell_alloc k58 _)
  have k73 : (W7.alloc (Obj.cells #[.int .i64 0, .int .i64 0] 23)).cell? ⟨W7.heap.size, 0, none⟩ = some (.int .i64 0) := by simp [go_sem]
  have k74 : (W7.alloc (Obj.cells #[.int .i64 0, .int .i64 0] 23)).cell? ⟨W7.heap.size, 1, none⟩ = some (.int .i64 0) := by simp [go_sem]
  have lk59 : w.heap.size < (W7.alloc (Obj.cells #[.int .i64 0, .int .i64 0] 23)).heap.size := block_lt_of_cell k59
  have lk61 : w.heap.size + 1 < (W7.alloc (Obj.cells #[.int .i64 0, .int .i64 0] 23)).heap.size := block_lt_of_cell k61
  have lk63 : W2.heap.size < (W7.alloc (Obj.cells #[.int .i64 0, .int .i64 0] 23)).heap.size := block_lt_of_cell k63
  have lk65 : W3.heap.size < (W7.alloc (Obj.cells #[.int .i64 0, .int .i64 0] 23)).heap.size := block_lt_of_cell k65
  have lk67 : W4.heap.size < (W7.alloc (Obj.cells #[.int .i64 0, .int .i64 0] 23)).heap.size := block_lt_of_cell k67
  have lk69 : W5.heap.size < (W7.alloc (Obj.cells #[.int .i64 0, .int .i64 0] 23)).heap.size := block_lt_of_cell k69
  have lk71 : W6.heap.size < (W7.alloc (Obj.cells #[.int .i64 0, .int .i64 0] 23)).heap.size := block_lt_of_cell k71
  have lk73 : W7.heap.size < (W7.alloc (Obj.cells #[.int .i64 0, .int .i64 0] 23)).heap.size := block_lt_of_cell k73
  have hv8 : Below w.heap.size w (W7.alloc (Obj.cells #[.int .i64 0, .int .i64 0] 23)) := (below_alloc hv7 _)
  clear hv7 k45 k46 k47 k48 k49 k50 k51 k52 k53 k54 k55 k56 k57 k58 lk45 lk47 lk49 lk51 lk53 lk55 lk57
  generalize (W7.alloc (Obj.cells #[.int .i64 0, .int .i64 0] 23)) = X8 at *
  have hTX : Hid (Tab X8.drew.heap.size X8.drew) := Lib.hid (Lib.tabBelow_of_tabIs (hT.out.on hv8.drew).here)
  go_cut [86] (fun s86 wx => s86 = .bool false ∧ wx.cell? ⟨w.heap.size, 0, none⟩ = some (.int .i64 a) ∧ wx.cell? ⟨w.heap.size, 1, none⟩ = some (.int .i64 b) ∧ wx.cell? ⟨w.heap.size + 1, 0, none⟩ = some (.int .i64 c) ∧ wx.cell? ⟨w.heap.size + 1, 1, none⟩ = some (.int .i64 d) ∧ wx.cell? ⟨W2.heap.size, 0, none⟩ = some (.int .i64 0) ∧ wx.cell? ⟨W2.heap.size, 1, none⟩ = some (.int .i64 0) ∧ wx.cell? ⟨W3.heap.size, 0, none⟩ = some (.int .i64 0) ∧ wx.cell? ⟨W3.heap.size, 1, none⟩ = some (.int .i64 0) ∧ wx.cell? ⟨W4.heap.size, 0, none⟩ = some (.int .i64 0) ∧ wx.cell? ⟨W4.heap.size, 1, none⟩ = some (.int .i64 0) ∧ wx.cell? ⟨W5.heap.size, 0, none⟩ = some (.int .i64 0) ∧ wx.cell? ⟨W5.heap.size, 1, none⟩ = some (.int .i64 0) ∧ wx.cell? ⟨W6.heap.size, 0, none⟩ = some (.int .i64 0) ∧ wx.cell? ⟨W6.heap.size, 1, none⟩ = some (.int .i64 0) ∧ wx.cell? ⟨W7.heap.size, 0, none⟩ = some (.int .i64 0) ∧ wx.cell? ⟨W7.heap.size, 1, none⟩ = some (.int .i64 0) ∧ Below w.heap.size w wx)
  case first =>
    have hvd : Below w.heap.size w X8.drew := hv8.drew
    have hu : undef = Value.tuple #[] := rfl
    first | (go_region_with (first
        | (go_at_call 22
           refine (KV.out _).mono ?_
           rintro e wp ⟨he, hbp⟩
           subst he
           have q0 : wp.cell? ⟨w.heap.size, 0, none⟩ = some (.int .i64 a) := kept1 (by assumption) hbp
           have q1 : wp.cell? ⟨w.heap.size, 1, none⟩ = some (.int .i64 b) := kept1 (by assumption) hbp
           have q2 : wp.cell? ⟨w.heap.size + 1, 0, none⟩ = some (.int .i64 c) := kept1 (by assumption) hbp
           have q3 : wp.cell? ⟨w.heap.size + 1, 1, none⟩ = some (.int .i64 d) := kept1 (by assumption) hbp
           have q4 : wp.cell? ⟨W2.heap.size, 0, none⟩ = some (.int .i64 0) := kept1 (by assumption) hbp
           have q5 : wp.cell? ⟨W2.heap.size, 1, none⟩ = some (.int .i64 0) := kept1 (by assumption) hbp
           have q6 : wp.cell? ⟨W3.heap.size, 0, none⟩ = some (.int .i64 0) := kept1 (by assumption) hbp
           have q7 : wp.cell? ⟨W3.heap.size, 1, none⟩ = some (.int .i64 0) := kept1 (by assumption) hbp
           have q8 : wp.cell? ⟨W4.heap.size, 0, none⟩ = some (.int .i64 0) := kept1 (by assumption) hbp
           have q9 : wp.cell? ⟨W4.heap.size, 1, none⟩ = some (.int .i64 0) := kept1 (by assumption) hbp
           have q10 : wp.cell? ⟨W5.heap.size, 0, none⟩ = some (.int .i64 0) := kept1 (by assumption) hbp
           have q11 : wp.cell? ⟨W5.heap.size, 1, none⟩ = some (.int .i64 0) := kept1 (by assumption) hbp
           have q12 : wp.cell? ⟨W6.heap.size, 0, none⟩ = some (.int .i64 0) := kept1 (by assumption) hbp
           have q13 : wp.cell? ⟨W6.heap.size, 1, none⟩ = some (.int .i64 0) := kept1 (by assumption) hbp
           have q14 : wp.cell? ⟨W7.heap.size, 0, none⟩ = some (.int .i64 0) := kept1 (by assumption) hbp
           have q15 : wp.cell? ⟨W7.heap.size, 1, none⟩ = some (.int .i64 0) := kept1 (by assumption) hbp
           have hvp : Below w.heap.size w wp := keep0 (by assumption) hbp
           skip))) | fail
    all_goals
      go_wp2_with fail
      go_meet
      exact ⟨rfl, q0, q1, q2, q3, q4, q5, q6, q7, q8, q9, q10, q11, q12, q13, q14, q15, hvp⟩
  case rest =>
    generalize wc = V9 at hcut ⊢
    clear wc
    obtain ⟨rfl, k75, k76, k77, k78, k79, k80, k81, k82, k83, k84, k85, k86, k87, k88, k89, k90, hv9⟩ := hcut
    clear hv8 k59 k60 k61 k62 k63 k64 k65 k66 k67 k68 k69 k70 k71 k72 k73 k74 lk59 lk61 lk63 lk65 lk67 lk69 lk71 lk73
    have lk75 : w.heap.size < V9.heap.size := block_lt_of_cell k75
    have lk77 : w.heap.size + 1 < V9.heap.size := block_lt_of_cell k77
    have lk79 : W2.heap.size < V9.heap.size := block_lt_of_cell k79
    have lk81 : W3.heap.size < V9.heap.size := block_lt_of_cell k81
    have lk83 : W4.heap.size < V9.heap.size := block_lt_of_cell k83
    have lk85 : W5.heap.size < V9.heap.size := block_lt_of_cell k85
    have lk87 : W6.heap.size < V9.heap.size := block_lt_of_cell k87
    have lk89 : W7.heap.size < V9.heap.size := block_lt_of_cell k89
    go_wp2_with fail
    refine (KW.out _).mono ?_
    rintro e W10 ⟨rfl, hb10⟩
    have k91 : W10.cell? ⟨w.heap.size, 0, none⟩ = some (.int .i64 a) := kept_a1 k75 hb10
    have k92 : W10.cell? ⟨w.heap.size, 1, none⟩ = some (.int .i64 b) := kept_a1 k76 hb10
    have k93 : W10.cell? ⟨w.heap.size + 1, 0, none⟩ = some (.int .i64 c) := kept_a1 k77 hb10
    have k94 : W10.cell? ⟨w.heap.size + 1, 1, none⟩ = some (.int .i64 d) := kept_a1 k78 hb10
    have k95 : W10.cell? ⟨W2.heap.size, 0, none⟩ = some (.int .i64 0) := kept_a1 k79 hb10
    have k96 : W10.cell? ⟨W2.heap.size, 1, none⟩ = some (.int .i64 0) := kept_a1 k80 hb10
    have k97 : W10.cell? ⟨W3.heap.size, 0, none⟩ = some (.int .i64 0) := kept_a1 k81 hb10
    have k98 : W10.cell? ⟨W3.heap.size, 1, none⟩ = some (.int .i64 0) := kept_a1 k82 hb10
    have k99 : W10.cell? ⟨W4.heap.size, 0, none⟩ = some (.int .i64 0) := kept_a1 k83 hb10
    have k100 : W10.cell? ⟨W4.heap.size, 1, none⟩ = some (.int .i64 0) := kept_a1 k84 hb10
    have k101 : W10.cell? ⟨W5.heap.size, 0, none⟩ = some (.int .i64 0) := kept_a1 k85 hb10
    have k102 : W10.cell? ⟨W5.heap.size, 1, none⟩ = some (.int .i64 0) := kept_a1 k86 hb10
    have k103 : W10.cell? ⟨W6.heap.size, 0, none⟩ = some (.int .i64 0) := kept_a1 k87 hb10
    have k104 : W10.cell? ⟨W6.heap.size, 1, none⟩ = some (.int .i64 0) := kept_a1 k88 hb10
    have k105 : W10.cell? ⟨W7.heap.size, 0, none⟩ = some (.int .i64 0) := kept_a1 k89 hb10
    have k106 : W10.cell? ⟨W7.heap.size, 1, none⟩ = some (.int .i64 0) := kept_a1 k90 hb10
    have k107 : W10.cell? ⟨V9.heap.size, 0, none⟩ = some (.int .i64 0) := kept1 (by simp [go_sem]) hb10
    have k108 : W10.cell? ⟨V9.heap.size, 1, none⟩ = some (.int .i64 0) := kept1 (by simp [go_sem]) hb10
    have k109 : W10.cell? ⟨V9.heap.size, 2, none⟩ = some (.int .i64 1) := kept1 (by simp [go_sem]) hb10
    have lk91 : w.heap.size < W10.heap.size := block_lt_of_cell k91
    have lk93 : w.heap.size + 1 < W10.heap.size := block_lt_of_cell k93
    have lk95 : W2.heap.size < W10.heap.size := block_lt_of_cell k95
    have lk97 : W3.heap.size < W10.heap.size := block_lt_of_cell k97
    have lk99 : W4.heap.size < W10.heap.size := block_lt_of_cell k99
    have lk101 : W5.heap.size < W10.heap.size := block_lt_of_cell k101
    have lk103 : W6.heap.size < W10.heap.size := block_lt_of_cell k103
    have lk105 : W7.heap.size < W10.heap.size := block_lt_of_cell k105
    have lk107 : V9.heap.size < W10.heap.size := block_lt_of_cell k107
    have hv10 : Below w.heap.size w W10 := bstep1 hv9 hb10
    clear hb10 hv9 k75 k76 k77 k78 k79 k80 k81 k82 k83 k84 k85 k86 k87 k88 k89 k90 lk75 lk77 lk79 lk81 lk83 lk85 lk87 lk89
    go_wp2_with fail
    refine (sanity_tab hT _ hv10).mono ?_
    rintro e W11 ⟨rfl, hb11⟩
    have k110 : W11.cell? ⟨w.heap.size, 0, none⟩ = some (.int .i64 a) := kept1 k91 hb11
    have k111 : W11.cell? ⟨w.heap.size, 1, none⟩ = some (.int .i64 b) := kept1 k92 hb11
    have k112 : W11.cell? ⟨w.heap.size + 1, 0, none⟩ = some (.int .i64 c) := kept1 k93 hb11
    have k113 : W11.cell? ⟨w.heap.size + 1, 1, none⟩ = some (.int .i64 d) := kept1 k94 hb11
    have k114 : W11.cell? ⟨W2.heap.size, 0, none⟩ = some (.int .i64 0) := kept1 k95 hb11
    have k115 : W11.cell? ⟨W2.heap.size, 1, none⟩ = some (.int .i64 0) := kept1 k96 hb11
    have k116 : W11.cell? ⟨W3.heap.size, 0, none⟩ = some (.int .i64 0) := kept1 k97 hb11
    have k117 : W11.cell? ⟨W3.heap.size, 1, none⟩ = some (.int .i64 0) := kept1 k98 hb11
    have k118 : W11.cell? ⟨W4.heap.size, 0, none⟩ = some (.int .i64 0) := kept1 k99 hb11
    have k119 : W11.cell? ⟨W4.heap.size, 1, none⟩ = some (.int .i64 0) := kept1 k100 hb11
    have k120 : W11.cell? ⟨W5.heap.size, 0, none⟩ = some (.int .i64 0) := kept1 k101 hb11
    have k121 : W11.cell? ⟨W5.heap.size, 1, none⟩ = some (.int .i64 0) := kept1 k102 hb11
    have k122 : W11.cell? ⟨W6.heap.size, 0, none⟩ = some (.int .i64 0) := kept1 k103 hb11
    have k123 : W11.cell? ⟨W6.heap.size, 1, none⟩ = some (.int .i64 0) := kept1 k104 hb11
    have k124 : W11.cell? ⟨W7.heap.size, 0, none⟩ = some (.int .i64 0) := kept1 k105 hb11
    have k125 : W11.cell? ⟨W7.heap.size, 1, none⟩ = some (.int .i64 0) := kept1 k106 hb11
    have k126 : W11.cell? ⟨V9.heap.size, 0, none⟩ = some (.int .i64 0) := kept1 k107 hb11
    have k127 : W11.cell? ⟨V9.heap.size, 1, none⟩ = some (.int .i64 0) := kept1 k108 hb11
    have k128 : W11.cell? ⟨V9.heap.size, 2, none⟩ = some (.int .i64 1) := kept1 k109 hb11
    have lk110 : w.heap.size < W11.heap.size := block_lt_of_cell k110
    have lk112 : w.heap.size + 1 < W11.heap.size := block_lt_of_cell k112
    have lk114 : W2.heap.size < W11.heap.size := block_lt_of_cell k114
    have lk116 : W3.heap.size < W11.heap.size := block_lt_of_cell k116
    have lk118 : W4.heap.size < W11.heap.size := block_lt_of_cell k118
    have lk120 : W5.heap.size < W11.heap.size := block_lt_of_cell k120
    have lk122 : W6.heap.size < W11.heap.size := block_lt_of_cell k122
    have lk124 : W7.heap.size < W11.heap.size := block_lt_of_cell k124
    have lk126 : V9.heap.size < W11.heap.size := block_lt_of_cell k126
    have hv11 : Below w.heap.size w W11 := bstep0 hv10 hb11
    clear hb11 hv10 k91 k92 k93 k94 k95 k96 k97 k98 k99 k100 k101 k102 k103 k104 k105 k106 k107 k108 k109 lk91 lk93 lk95 lk97 lk99 lk101 lk103 lk105 lk107
    go_wp2_with fail
    refine (is_yes 0 0 1 _).mono ?_
    rintro e W12 ⟨rfl, hb12⟩
    have k129 : W12.cell? ⟨w.heap.size, 0, none⟩ = some (.int .i64 a) := kept1 k110 hb12
    have k130 : W12.cell? ⟨w.heap.size, 1, none⟩ = some (.int .i64 b) := kept1 k111 hb12
    have k131 : W12.cell? ⟨w.heap.size + 1, 0, none⟩ = some (.int .i64 c) := kept1 k112 hb12
    have k132 : W12.cell? ⟨w.heap.size + 1, 1, none⟩ = some (.int .i64 d) := kept1 k113 hb12
    have k133 : W12.cell? ⟨W2.heap.size, 0, none⟩ = some (.int .i64 0) := kept1 k114 hb12
    have k134 : W12.cell? ⟨W2.heap.size, 1, none⟩ = some (.int .i64 0) := kept1 k115 hb12
    have k135 : W12.cell? ⟨W3.heap.size, 0, none⟩ = some (.int .i64 0) := kept1 k116 hb12
    have k136 : W12.cell? ⟨W3.heap.size, 1, none⟩ = some (.int .i64 0) := kept1 k117 hb12
    have k137 : W12.cell? ⟨W4.heap.size, 0, none⟩ = some (.int .i64 0) := kept1 k118 hb12
    have k138 : W12.cell? ⟨W4.heap.size, 1, none⟩ = some (.int .i64 0) := kept1 k119 hb12
    have k139 : W12.cell? ⟨W5.heap.size, 0, none⟩ = some (.int .i64 0) := kept1 k120 hb12
    have k140 : W12.cell? ⟨W5.heap.size, 1, none⟩ = some (.int .i64 0) := kept1 k121 hb12
    have k141 : W12.cell? ⟨W6.heap.size, 0, none⟩ = some (.int .i64 0) := kept1 k122 hb12
    have k142 : W12.cell? ⟨W6.heap.size, 1, none⟩ = some (.int .i64 0) := kept1 k123 hb12
    have k143 : W12.cell? ⟨W7.heap.size, 0, none⟩ = some (.int .i64 0) := kept1 k124 hb12
    have k144 : W12.cell? ⟨W7.heap.size, 1, none⟩ = some (.int .i64 0) := kept1 k125 hb12
    have k145 : W12.cell? ⟨V9.heap.size, 0, none⟩ = some (.int .i64 0) := kept1 k126 hb12
    have k146 : W12.cell? ⟨V9.heap.size, 1, none⟩ = some (.int .i64 0) := kept1 k127 hb12
    have k147 : W12.cell? ⟨V9.heap.size, 2, none⟩ = some (.int .i64 1) := kept1 k128 hb12
    have lk129 : w.heap.size < W12.heap.size := block_lt_of_cell k129
    have lk131 : w.heap.size + 1 < W12.heap.size := block_lt_of_cell k131
    have lk133 : W2.heap.size < W12.heap.size := block_lt_of_cell k133
    have lk135 : W3.heap.size < W12.heap.size := block_lt_of_cell k135
    have lk137 : W4.heap.size < W12.heap.size := block_lt_of_cell k137
    have lk139 : W5.heap.size < W12.heap.size := block_lt_of_cell k139
    have lk141 : W6.heap.size < W12.heap.size := block_lt_of_cell k141
    have lk143 : W7.heap.size < W12.heap.size := block_lt_of_cell k143
    have lk145 : V9.heap.size < W12.heap.size := block_lt_of_cell k145
    have hv12 : Below w.heap.size w W12 := bstep0 hv11 hb12
    clear hb12 hv11 k110 k111 k112 k113 k114 k115 k116 k117 k118 k119 k120 k121 k122 k123 k124 k125 k126 k127 k128 lk110 lk112 lk114 lk116 lk118 lk120 lk122 lk124 lk126
    go_wp2_with fail
    refine (is_yes 0 0 1 _).mono ?_
    rintro e W13 ⟨rfl, hb13⟩
    have k148 : W13.cell? ⟨w.heap.size, 0, none⟩ = some (.int .i64 a) := kept1 k129 hb13
    have k149 : W13.cell? ⟨w.heap.size, 1, none⟩ = some (.int .i64 b) := kept1 k130 hb13
    have k150 : W13.cell? ⟨w.heap.size + 1, 0, none⟩ = some (.int .i64 c) := kept1 k131 hb13
    have k151 : W13.cell? ⟨w.heap.size + 1, 1, none⟩ = some (.int .i64 d) := kept1 k132 hb13
    have k152 : W13.cell? ⟨W2.heap.size, 0, none⟩ = some (.int .i64 0) := kept1 k133 hb13
    have k153 : W13.cell? ⟨W2.heap.size, 1, none⟩ = some (.int .i64 0) := kept1 k134 hb13
    have k154 : W13.cell? ⟨W3.heap.size, 0, none⟩ = some (.int .i64 0) := kept1 k135 hb13
    have k155 : W13.cell? ⟨W3.heap.size, 1, none⟩ = some (.int .i64 0) := kept1 k136 hb13
    have k156 : W13.cell? ⟨W4.heap.size, 0, none⟩ = some (.int .i64 0) := kept1 k137 hb13
    have k157 : W13.cell? ⟨W4.heap.size, 1, none⟩ = some (.int .i64 0) := kept1 k138 hb13
    have k158 : W13.cell? ⟨W5.heap.size, 0, none⟩ = some (.int .i64 0) := kept1 k139 hb13
    have k159 : W13.cell? ⟨W5.heap.size, 1, none⟩ = some (.int .i64 0) := kept1 k140 hb13
    have k160 : W13.cell? ⟨W6.heap.size, 0, none⟩ = some (.int .i64 0) := kept1 k141 hb13
    have k161 : W13.cell? ⟨W6.heap.size, 1, none⟩ = some (.int .i64 0) := kept1 k142 hb13
    have k162 : W13.cell? ⟨W7.heap.size, 0, none⟩ = some (.int .i64 0) := kept1 k143 hb13
    have k163 : W13.cell? ⟨W7.heap.size, 1, none⟩ = some (.int .i64 0) := kept1 k144 hb13
    have k164 : W13.cell? ⟨V9.heap.size, 0, none⟩ = some (.int .i64 0) := kept1 k145 hb13
    have k165 : W13.cell? ⟨V9.heap.size, 1, none⟩ = some (.int .i64 0) := kept1 k146 hb13
    have k166 : W13.cell? ⟨V9.heap.size, 2, none⟩ = some (.int .i64 1) := kept1 k147 hb13
    have lk148 : w.heap.size < W13.heap.size := block_lt_of_cell k148
    have lk150 : w.heap.size + 1 < W13.heap.size := block_lt_of_cell k150
    have lk152 : W2.heap.size < W13.heap.size := block_lt_of_cell k152
    have lk154 : W3.heap.size < W13.heap.size := block_lt_of_cell k154
    have lk156 : W4.heap.size < W13.heap.size := block_lt_of_cell k156
    have lk158 : W5.heap.size < W13.heap.size := block_lt_of_cell k158
    have lk160 : W6.heap.size < W13.heap.size := block_lt_of_cell k160
    have lk162 : W7.heap.size < W13.heap.size := block_lt_of_cell k162
    have lk164 : V9.heap.size < W13.heap.size := block_lt_of_cell k164
    have hv13 : Below w.heap.size w W13 := bstep0 hv12 hb13
    clear hb13 hv12 k129 k130 k131 k132 k133 k134 k135 k136 k137 k138 k139 k140 k141 k142 k143 k144 k145 k146 k147 lk129 lk131 lk133 lk135 lk137 lk139 lk141 lk143 lk145
    go_wp2_with fail
    refine (is_yes 0 0 1 _).mono ?_
    rintro e W14 ⟨rfl, hb14⟩
    have k167 : W14.cell? ⟨w.heap.size, 0, none⟩ = some (.int .i64 a) := kept1 k148 hb14
    have k168 : W14.cell? ⟨w.heap.size, 1, none⟩ = some (.int .i64 b) := kept1 k149 hb14
    have k169 : W14.cell? ⟨w.heap.size + 1, 0, none⟩ = some (.int .i64 c) := kept1 k150 hb14
    have k170 : W14.cell? ⟨w.heap.size + 1, 1, none⟩ = some (.int .i64 d) := kept1 k151 hb14
    have k171 : W14.cell? ⟨W2.heap.size, 0, none⟩ = some (.int .i64 0) := kept1 k152 hb14
    have k172 : W14.cell? ⟨W2.heap.size, 1, none⟩ = some (.int .i64 0) := kept1 k153 hb14
    have k173 : W14.cell? ⟨W3.heap.size, 0, none⟩ = some (.int .i64 0) := kept1 k154 hb14
    have k174 : W14.cell? ⟨W3.heap.size, 1, none⟩ = some (.int .i64 0) := kept1 k155 hb14
    have k175 : W14.cell? ⟨W4.heap.size, 0, none⟩ = some (.int .i64 0) := kept1 k156 hb14
    have k176 : W14.cell? ⟨W4.heap.size, 1, none⟩ = some (.int .i64 0) := kept1 k157 hb14
    have k177 : W14.cell? ⟨W5.heap.size, 0, none⟩ = some (.int .i64 0) := kept1 k158 hb14
    have k178 : W14.cell? ⟨W5.heap.size, 1, none⟩ = some (.int .i64 0) := kept1 k159 hb14
    have k179 : W14.cell? ⟨W6.heap.size, 0, none⟩ = some (.int .i64 0) := kept1 k160 hb14
    have k180 : W14.cell? ⟨W6.heap.size, 1, none⟩ = some (.int .i64 0) := kept1 k161 hb14
    have k181 : W14.cell? ⟨W7.heap.size, 0, none⟩ = some (.int .i64 0) := kept1 k162 hb14
    have k182 : W14.cell? ⟨W7.heap.size, 1, none⟩ = some (.int .i64 0) := kept1 k163 hb14
    have k183 : W14.cell? ⟨V9.heap.size, 0, none⟩ = some (.int .i64 0) := kept1 k164 hb14
    have k184 : W14.cell? ⟨V9.heap.size, 1, none⟩ = some (.int .i64 0) := kept1 k165 hb14
    have k185 : W14.cell? ⟨V9.heap.size, 2, none⟩ = some (.int .i64 1) := kept1 k166 hb14
    have lk167 : w.heap.size < W14.heap.size := block_lt_of_cell k167
    have lk169 : w.heap.size + 1 < W14.heap.size := block_lt_of_cell k169
    have lk171 : W2.heap.size < W14.heap.size := block_lt_of_cell k171
    have lk173 : W3.heap.size < W14.heap.size := block_lt_of_cell k173
    have lk175 : W4.heap.size < W14.heap.size := block_lt_of_cell k175
    have lk177 : W5.heap.size < W14.heap.size := block_lt_of_cell k177
    have lk179 : W6.heap.size < W14.heap.size := block_lt_of_cell k179
    have lk181 : W7.heap.size < W14.heap.size := block_lt_of_cell k181
    have lk183 : V9.heap.size < W14.heap.size := block_lt_of_cell k183
    have hv14 : Below w.heap.size w W14 := bstep0 hv13 hb14
    clear hb14 hv13 k148 k149 k150 k151 k152 k153 k154 k155 k156 k157 k158 k159 k160 k161 k162 k163 k164 k165 k166 lk148 lk150 lk152 lk154 lk156 lk158 lk160 lk162 lk164
    go_wp2_with fail
    refine (is_yes 0 0 1 _).mono ?_
    rintro e W15 ⟨rfl, hb15⟩
    have k186 : W15.cell? ⟨w.heap.size, 0, none⟩ = some (.int .i64 a) := kept1 k167 hb15
    have k187 : W15.cell? ⟨w.heap.size, 1, none⟩ = some (.int .i64 b) := kept1 k168 hb15
    have k188 : W15.cell? ⟨w.heap.size + 1, 0, none⟩ = some (.int .i64 c) := kept1 k169 hb15
    have k189 : W15.cell? ⟨w.heap.size + 1, 1, none⟩ = some (.int .i64 d) := kept1 k170 hb15
    have k190 : W15.cell? ⟨W2.heap.size, 0, none⟩ = some (.int .i64 0) := kept1 k171 hb15
    have k191 : W15.cell? ⟨W2.heap.size, 1, none⟩ = some (.int .i64 0) := kept1 k172 hb15
    have k192 : W15.cell? ⟨W3.heap.size, 0, none⟩ = some (.int .i64 0) := kept1 k173 hb15
    have k193 : W15.cell? ⟨W3.heap.size, 1, none⟩ = some (.int .i64 0) := kept1 k174 hb15
    have k194 : W15.cell? ⟨W4.heap.size, 0, none⟩ = some (.int .i64 0) := kept1 k175 hb15
    have k195 : W15.cell? ⟨W4.heap.size, 1, none⟩ = some (.int .i64 0) := kept1 k176 hb15
    have k196 : W15.cell? ⟨W5.heap.size, 0, none⟩ = some (.int .i64 0) := kept1 k177 hb15
    have k197 : W15.cell? ⟨W5.heap.size, 1, none⟩ = some (.int .i64 0) := kept1 k178 hb15
    have k198 : W15.cell? ⟨W6.heap.size, 0, none⟩ = some (.int .i64 0) := kept1 k179 hb15
    have k199 : W15.cell? ⟨W6.heap.size, 1, none⟩ = some (.int .i64 0) := kept1 k180 hb15
    have k200 : W15.cell? ⟨W7.heap.size, 0, none⟩ = some (.int .i64 0) := kept1 k181 hb15
    have k201 : W15.cell? ⟨W7.heap.size, 1, none⟩ = some (.int .i64 0) := kept1 k182 hb15
    have k202 : W15.cell? ⟨V9.heap.size, 0, none⟩ = some (.int .i64 0) := kept1 k183 hb15
    have k203 : W15.cell? ⟨V9.heap.size, 1, none⟩ = some (.int .i64 0) := kept1 k184 hb15
    have k204 : W15.cell? ⟨V9.heap.size, 2, none⟩ = some (.int .i64 1) := kept1 k185 hb15
    have lk186 : w.heap.size < W15.heap.size := block_lt_of_cell k186
    have lk188 : w.heap.size + 1 < W15.heap.size := block_lt_of_cell k188
    have lk190 : W2.heap.size < W15.heap.size := block_lt_of_cell k190
    have lk192 : W3.heap.size < W15.heap.size := block_lt_of_cell k192
    have lk194 : W4.heap.size < W15.heap.size := block_lt_of_cell k194
    have lk196 : W5.heap.size < W15.heap.size := block_lt_of_cell k196
    have lk198 : W6.heap.size < W15.heap.size := block_lt_of_cell k198
    have lk200 : W7.heap.size < W15.heap.size := block_lt_of_cell k200
    have lk202 : V9.heap.size < W15.heap.size := block_lt_of_cell k202
    have hv15 : Below w.heap.size w W15 := bstep0 hv14 hb15
    clear hb15 hv14 k167 k168 k169 k170 k171 k172 k173 k174 k175 k176 k177 k178 k179 k180 k181 k182 k183 k184 k185 lk167 lk169 lk171 lk173 lk175 lk177 lk179 lk181 lk183
    go_wp2_with fail
    refine (is_yes 0 0 1 _).mono ?_
    rintro e W16 ⟨rfl, hb16⟩
    have k205 : W16.cell? ⟨w.heap.size, 0, none⟩ = some (.int .i64 a) := kept1 k186 hb16
    have k206 : W16.cell? ⟨w.heap.size, 1, none⟩ = some (.int .i64 b) := kept1 k187 hb16
    have k207 : W16.cell? ⟨w.heap.size + 1, 0, none⟩ = some (.int .i64 c) := kept1 k188 hb16
    have k208 : W16.cell? ⟨w.heap.size + 1, 1, none⟩ = some (.int .i64 d) := kept1 k189 hb16
    have k209 : W16.cell? ⟨W2.heap.size, 0, none⟩ = some (.int .i64 0) := kept1 k190 hb16
    have k210 : W16.cell? ⟨W2.heap.size, 1, none⟩ = some (.int .i64 0) := kept1 k191 hb16
    have k211 : W16.cell? ⟨W3.heap.size, 0, none⟩ = some (.int .i64 0) := kept1 k192 hb16
    have k212 : W16.cell? ⟨W3.heap.size, 1, none⟩ = some (.int .i64 0) := kept1 k193 hb16
    have k213 : W16.cell? ⟨W4.heap.size, 0, none⟩ = some (.int .i64 0) := kept1 k194 hb16
    have k214 : W16.cell? ⟨W4.heap.size, 1, none⟩ = some (.int .i64 0) := kept1 k195 hb16
    have k215 : W16.cell? ⟨W5.heap.size, 0, none⟩ = some (.int .i64 0) := kept1 k196 hb16
    have k216 : W16.cell? ⟨W5.heap.size, 1, none⟩ = some (.int .i64 0) := kept1 k197 hb16
    have k217 : W16.cell? ⟨W6.heap.size, 0, none⟩ = some (.int .i64 0) := kept1 k198 hb16
    have k218 : W16.cell? ⟨W6.heap.size, 1, none⟩ = some (.int .i64 0) := kept1 k199 hb16
    have k219 : W16.cell? ⟨W7.heap.size, 0, none⟩ = some (.int .i64 0) := kept1 k200 hb16
    have k220 : W16.cell? ⟨W7.heap.size, 1, none⟩ = some (.int .i64 0) := kept1 k201 hb16
    have k221 : W16.cell? ⟨V9.heap.size, 0, none⟩ = some (.int .i64 0) := kept1 k202 hb16
    have k222 : W16.cell? ⟨V9.heap.size, 1, none⟩ = some (.int .i64 0) := kept1 k203 hb16
    have k223 : W16.cell? ⟨V9.heap.size, 2, none⟩ = some (.int .i64 1) := kept1 k204 hb16
    have lk205 : w.heap.size < W16.heap.size := block_lt_of_cell k205
    have lk207 : w.heap.size + 1 < W16.heap.size := block_lt_of_cell k207
    have lk209 : W2.heap.size < W16.heap.size := block_lt_of_cell k209
    have lk211 : W3.heap.size < W16.heap.size := block_lt_of_cell k211
    have lk213 : W4.heap.size < W16.heap.size := block_lt_of_cell k213
    have lk215 : W5.heap.size < W16.heap.size := block_lt_of_cell k215
    have lk217 : W6.heap.size < W16.heap.size := block_lt_of_cell k217
    have lk219 : W7.heap.size < W16.heap.size := block_lt_of_cell k219
    have lk221 : V9.heap.size < W16.heap.size := block_lt_of_cell k221
    have hv16 : Below w.heap.size w W16 := bstep0 hv15 hb16
    clear hb16 hv15 k186 k187 k188 k189 k190 k191 k192 k193 k194 k195 k196 k197 k198 k199 k200 k201 k202 k203 k204 lk186 lk188 lk190 lk192 lk194 lk196 lk198 lk200 lk202
    go_wp2
    go_ret
    exact ⟨by first | rfl | simp, (by repeat (first | with_reducible exact Below.refl _ _ | with_reducible assumption | refine below_drewN ?_ _ | refine Below.drew ?_ | refine Below.alloc ?_ (by first | (simp; done) | (simp; omega) | omega) _ | refine Below.setCell ?_ (by first | (simp; done) | (simp; omega) | omega) _ | refine Below.trans ?_ (Below.mono (by assumption) (by first | (simp; done) | (simp; omega) | omega))))⟩

end Go.Proofs.YtpbomeoonknifaaDoor
