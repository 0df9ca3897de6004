/- The law ExactOrder: two numbers with two numerators and a mediant. -/
import Derived.Test.YtpbomeoonknifaaDoorSz
namespace Go.Proofs.YtpbomeoonknifaaDoor
open Go.RowKit Go.Shelf

set_option maxRecDepth 100000 in
set_option maxHeartbeats 4000000 in
theorem order_ne1 (a1 a2 b1 b2 c1 c2 n p q m1 m2 : Int) (x y u v : Rt.Num) (KW : Hid (∀ W : World, Calls Tryd.prog 31 #[.agg #[.int .i64 a1, .int .i64 a2], .agg #[.int .i64 b1, .int .i64 b2]] W fun e w' => e = .returned (.bool false) ∧ Below W.heap.size W w')) (KV : Hid (∀ W : World, Calls Tryd.prog 22 #[.agg #[.int .i64 c1, .int .i64 c2]] W fun e w' => e = .returned (.bool true) ∧ Below W.heap.size W w')) (HA : Hid (∀ W : World, Calls Tryd.prog 23 #[.agg #[.int .i64 a1, .int .i64 a2], .agg #[.int .i64 b1, .int .i64 b2]] W fun e w' => e = .returned (.tuple #[.int .i64 n, .int .i64 0]) ∧ Below W.heap.size W w')) (HB : Hid (∀ W : World, Calls Tryd.prog 23 #[.agg #[.int .i64 b1, .int .i64 b2], .agg #[.int .i64 a1, .int .i64 a2]] W fun e w' => e = .returned (.tuple #[.int .i64 (-n), .int .i64 0]) ∧ Below W.heap.size W w')) (HC : Hid (∀ W : World, Calls Tryd.prog 23 #[.agg #[.int .i64 b1, .int .i64 b2], .agg #[.int .i64 c1, .int .i64 c2]] W fun e w' => e = .returned (.tuple #[.int .i64 p, .int .i64 0]) ∧ Below W.heap.size W w')) (HD : Hid (∀ W : World, Calls Tryd.prog 23 #[.agg #[.int .i64 a1, .int .i64 a2], .agg #[.int .i64 c1, .int .i64 c2]] W fun e w' => e = .returned (.tuple #[.int .i64 q, .int .i64 0]) ∧ Below W.heap.size W w')) (hn : -1 ≤ n ∧ n ≤ 1 ∧ n ≠ 0) (hb : Hid ((n == 0) = false)) (hne : Hid (a1 ≠ b1)) (hcls : Hid (0 < n ∨ (n < 0 ∧ 0 < p) ∨ (n < 0 ∧ p ≤ 0 ∧ q ≤ 0))) (X1 : Hid (∀ W : World, Calls Tryd.prog 25 #[.agg #[.int .i64 a1, .int .i64 a2], .agg #[.int .i64 c1, .int .i64 c2]] W fun e w' => e = .returned (.tuple #[.agg #[.int .i64 x.n, .int .i64 x.d], .int .i64 x.e]) ∧ Below W.heap.size W w')) (X2 : Hid (∀ W : World, Calls Tryd.prog 25 #[.agg #[.int .i64 b1, .int .i64 b2], .agg #[.int .i64 c1, .int .i64 c2]] W fun e w' => e = .returned (.tuple #[.agg #[.int .i64 y.n, .int .i64 y.d], .int .i64 y.e]) ∧ Below W.heap.size W w')) (t1 : Bool) (h1 : Hid ((x.e = 0 ∧ y.e = 0 ∧ t1 = true) ∨ (x.e = 0 ∧ y.e = 3 ∧ t1 = false) ∨ (x.e = 3 ∧ t1 = false))) (XC : Hid (t1 = true → ∀ W : World, Calls Tryd.prog 23 #[.agg #[.int .i64 x.n, .int .i64 x.d], .agg #[.int .i64 y.n, .int .i64 y.d]] W fun e w' => e = .returned (.tuple #[.int .i64 n, .int .i64 0]) ∧ Below W.heap.size W w')) (U1 : Hid (∀ W : World, Calls Tryd.prog 27 #[.agg #[.int .i64 a1, .int .i64 a2], .agg #[.int .i64 c1, .int .i64 c2]] W fun e w' => e = .returned (.tuple #[.agg #[.int .i64 u.n, .int .i64 u.d], .int .i64 u.e]) ∧ Below W.heap.size W w')) (U2 : Hid (∀ W : World, Calls Tryd.prog 27 #[.agg #[.int .i64 b1, .int .i64 b2], .agg #[.int .i64 c1, .int .i64 c2]] W fun e w' => e = .returned (.tuple #[.agg #[.int .i64 v.n, .int .i64 v.d], .int .i64 v.e]) ∧ Below W.heap.size W w')) (t2 : Bool) (h2 : Hid ((u.e = 0 ∧ v.e = 0 ∧ 0 < c1 ∧ t2 = true) ∨ (u.e = 0 ∧ v.e = 0 ∧ c1 ≤ 0 ∧ t2 = false) ∨ (u.e = 0 ∧ v.e = 3 ∧ t2 = false) ∨ (u.e = 3 ∧ t2 = false))) (UC : Hid (t2 = true → ∀ W : World, Calls Tryd.prog 23 #[.agg #[.int .i64 u.n, .int .i64 u.d], .agg #[.int .i64 v.n, .int .i64 v.d]] W fun e w' => e = .returned (.tuple #[.int .i64 n, .int .i64 0]) ∧ Below W.heap.size W w')) (M1 : Hid (∀ W : World, Calls Tryd.prog 29 #[.agg #[.int .i64 a1, .int .i64 a2], .agg #[.int .i64 b1, .int .i64 b2]] W fun e w' => e = .returned (.tuple #[.agg #[.int .i64 m1, .int .i64 m2], .int .i64 0]) ∧ Below W.heap.size W w')) (MA : Hid (∀ W : World, Calls Tryd.prog 23 #[.agg #[.int .i64 a1, .int .i64 a2], .agg #[.int .i64 m1, .int .i64 m2]] W fun e w' => e = .returned (.tuple #[.int .i64 n, .int .i64 0]) ∧ Below W.heap.size W w')) (MB : Hid (∀ W : World, Calls Tryd.prog 23 #[.agg #[.int .i64 m1, .int .i64 m2], .agg #[.int .i64 b1, .int .i64 b2]] W fun e w' => e = .returned (.tuple #[.int .i64 n, .int .i64 0]) ∧ Below W.heap.size W w')) (w : World) (hT : Hid (Tab w.heap.size w)) :
    Calls Tryd.prog 12 #[.agg #[.int .i64 a1, .int .i64 a2], .agg #[.int .i64 b1, .int .i64 b2], .agg #[.int .i64 c1, .int .i64 c2]] w fun e w' => e = .returned (.bool true) ∧ Below w.heap.size w w' := by
  go_enter Tryd.func12, Tryd.ntmps12
  go_wp2_with fail
  refine (KW.out _).mono ?_
  rintro e W1 ⟨rfl, hb1⟩
  have k1 : W1.cell? ⟨w.heap.size, 0, none⟩ = some (.int .i64 a1) := kept1 (by simp [go_sem]) hb1
  have k2 : W1.cell? ⟨w.heap.size, 1, none⟩ = some (.int .i64 a2) := kept1 (by simp [go_sem]) hb1
  have k3 : W1.cell? ⟨w.heap.size + 1, 0, none⟩ = some (.int .i64 b1) := kept1 (by simp [go_sem]) hb1
  have k4 : W1.cell? ⟨w.heap.size + 1, 1, none⟩ = some (.int .i64 b2) := kept1 (by simp [go_sem]) hb1
  have k5 : W1.cell? ⟨w.heap.size + 1 + 1, 0, none⟩ = some (.int .i64 c1) := kept1 (by simp [go_sem]) hb1
  have k6 : W1.cell? ⟨w.heap.size + 1 + 1, 1, none⟩ = some (.int .i64 c2) := kept1 (by simp [go_sem]) hb1
  have lk1 : w.heap.size < W1.heap.size := block_lt_of_cell k1
  have lk3 : w.heap.size + 1 < W1.heap.size := block_lt_of_cell k3
  have lk5 : w.heap.size + 1 + 1 < W1.heap.size := block_lt_of_cell k5
  have hv1 : Below w.heap.size w W1 := bstep3 (Below.refl _ _) hb1
  clear hb1  
  go_wp2_with fail
  refine (KV.out _).mono ?_
  rintro e W2 ⟨rfl, hb2⟩
  have k7 : W2.cell? ⟨w.heap.size, 0, none⟩ = some (.int .i64 a1) := kept1 k1 hb2
  have k8 : W2.cell? ⟨w.heap.size, 1, none⟩ = some (.int .i64 a2) := kept1 k2 hb2
  have k9 : W2.cell? ⟨w.heap.size + 1, 0, none⟩ = some (.int .i64 b1) := kept1 k3 hb2
  have k10 : W2.cell? ⟨w.heap.size + 1, 1, none⟩ = some (.int .i64 b2) := kept1 k4 hb2
  have k11 : W2.cell? ⟨w.heap.size + 1 + 1, 0, none⟩ = some (.int .i64 c1) := kept1 k5 hb2
  have k12 : W2.cell? ⟨w.heap.size + 1 + 1, 1, none⟩ = some (.int .i64 c2) := kept1 k6 hb2
  have lk7 : w.heap.size < W2.heap.size := block_lt_of_cell k7
  have lk9 : w.heap.size + 1 < W2.heap.size := block_lt_of_cell k9
  have lk11 : w.heap.size + 1 + 1 < W2.heap.size := block_lt_of_cell k11
  have hv2 : Below w.heap.size w W2 := bstep0 hv1 hb2
  clear hb2 hv1 k1 k2 k3 k4 k5 k6 lk1 lk3 lk5
  go_wp2_with fail
  refine (HA.out _).mono ?_
  rintro e W3 ⟨rfl, hb3⟩
  have k13 : W3.cell? ⟨w.heap.size, 0, none⟩ = some (.int .i64 a1) := kept1 k7 hb3
  have k14 : W3.cell? ⟨w.heap.size, 1, none⟩ = some (.int .i64 a2) := kept1 k8 hb3
  have k15 : W3.cell? ⟨w.heap.size + 1, 0, none⟩ = some (.int .i64 b1) := kept1 k9 hb3
  have k16 : W3.cell? ⟨w.heap.size + 1, 1, none⟩ = some (.int .i64 b2) := kept1 k10 hb3
  have k17 : W3.cell? ⟨w.heap.size + 1 + 1, 0, none⟩ = some (.int .i64 c1) := kept1 k11 hb3
  have k18 : W3.cell? ⟨w.heap.size + 1 + 1, 1, none⟩ = some (.int .i64 c2) := kept1 k12 hb3
  have lk13 : w.heap.size < W3.heap.size := block_lt_of_cell k13
  have lk15 : w.heap.size + 1 < W3.heap.size := block_lt_of_cell k15
  have lk17 : w.heap.size + 1 + 1 < W3.heap.size := block_lt_of_cell k17
  have hv3 : Below w.heap.size w W3 := bstep0 hv2 hb3
  clear hb3 hv2 k7 k8 k9 k10 k11 k12 lk7 lk9 lk11
  go_wp2_with fail
  refine (HB.out _).mono ?_
  rintro e W4 ⟨rfl, hb4⟩
  have k19 : W4.cell? ⟨w.heap.size, 0, none⟩ = some (.int .i64 a1) := kept1 k13 hb4
  have k20 : W4.cell? ⟨w.heap.size, 1, none⟩ = some (.int .i64 a2) := kept1 k14 hb4
  have k21 : W4.cell? ⟨w.heap.size + 1, 0, none⟩ = some (.int .i64 b1) := kept1 k15 hb4
  have k22 : W4.cell? ⟨w.heap.size + 1, 1, none⟩ = some (.int .i64 b2) := kept1 k16 hb4
  have k23 : W4.cell? ⟨w.heap.size + 1 + 1, 0, none⟩ = some (.int .i64 c1) := kept1 k17 hb4
  have k24 : W4.cell? ⟨w.heap.size + 1 + 1, 1, none⟩ = some (.int .i64 c2) := kept1 k18 hb4
  have lk19 : w.heap.size < W4.heap.size := block_lt_of_cell k19
  have lk21 : w.heap.size + 1 < W4.heap.size := block_lt_of_cell k21
  have lk23 : w.heap.size + 1 + 1 < W4.heap.size := block_lt_of_cell k23
  have hv4 : Below w.heap.size w W4 := bstep0 hv3 hb4
  clear hb4 hv3 k13 k14 k15 k16 k17 k18 lk13 lk15 lk17
  go_wp2_with fail
  refine (HC.out _).mono ?_
  rintro e W5 ⟨rfl, hb5⟩
  have k25 : W5.cell? ⟨w.heap.size, 0, none⟩ = some (.int .i64 a1) := kept1 k19 hb5
  have k26 : W5.cell? ⟨w.heap.size, 1, none⟩ = some (.int .i64 a2) := kept1 k20 hb5
  have k27 : W5.cell? ⟨w.heap.size + 1, 0, none⟩ = some (.int .i64 b1) := kept1 k21 hb5
  have k28 : W5.cell? ⟨w.heap.size + 1, 1, none⟩ = some (.int .i64 b2) := kept1 k22 hb5
  have k29 : W5.cell? ⟨w.heap.size + 1 + 1, 0, none⟩ = some (.int .i64 c1) := kept1 k23 hb5
  have k30 : W5.cell? ⟨w.heap.size + 1 + 1, 1, none⟩ = some (.int .i64 c2) := kept1 k24 hb5
  have lk25 : w.heap.size < W5.heap.size := block_lt_of_cell k25
  have lk27 : w.heap.size + 1 < W5.heap.size := block_lt_of_cell k27
  have lk29 : w.heap.size + 1 + 1 < W5.heap.size := block_lt_of_cell k29
  have hv5 : Below w.heap.size w W5 := bstep0 hv4 hb5
  clear hb5 hv4 k19 k20 k21 k22 k23 k24 lk19 lk21 lk23
  go_wp2_with fail
  refine (HD.out _).mono ?_
  rintro e W6 ⟨rfl, hb6⟩
  have k31 : W6.cell? ⟨w.heap.size, 0, none⟩ = some (.int .i64 a1) := kept1 k25 hb6
  have k32 : W6.cell? ⟨w.heap.size, 1, none⟩ = some (.int .i64 a2) := kept1 k26 hb6
  have k33 : W6.cell? ⟨w.heap.size + 1, 0, none⟩ = some (.int .i64 b1) := kept1 k27 hb6
  have k34 : W6.cell? ⟨w.heap.size + 1, 1, none⟩ = some (.int .i64 b2) := kept1 k28 hb6
  have k35 : W6.cell? ⟨w.heap.size + 1 + 1, 0, none⟩ = some (.int .i64 c1) := kept1 k29 hb6
  have k36 : W6.cell? ⟨w.heap.size + 1 + 1, 1, none⟩ = some (.int .i64 c2) := kept1 k30 hb6
  have lk31 : w.heap.size < W6.heap.size := block_lt_of_cell k31
  have lk33 : w.heap.size + 1 < W6.heap.size := block_lt_of_cell k33
  have lk35 : w.heap.size + 1 + 1 < W6.heap.size := block_lt_of_cell k35
  have hv6 : Below w.heap.size w W6 := bstep0 hv5 hb6
  clear hb6 hv5 k25 k26 k27 k28 k29 k30 lk25 lk27 lk29
  go_upto_region 7 with fail
  have hTX : Hid (Tab W6.drew.heap.size W6.drew) := Lib.hid (Lib.tabBelow_of_tabIs (hT.out.on hv6.drew).here)
  go_cut [102] from 63 to 102 (fun s102 wx => s102 = .bool false ∧ wx.cell? ⟨w.heap.size, 0, none⟩ = some (.int .i64 a1) ∧ wx.cell? ⟨w.heap.size, 1, none⟩ = some (.int .i64 a2) ∧ wx.cell? ⟨w.heap.size + 1, 0, none⟩ = some (.int .i64 b1) ∧ wx.cell? ⟨w.heap.size + 1, 1, none⟩ = some (.int .i64 b2) ∧ wx.cell? ⟨w.heap.size + 1 + 1, 0, none⟩ = some (.int .i64 c1) ∧ wx.cell? ⟨w.heap.size + 1 + 1, 1, none⟩ = some (.int .i64 c2) ∧ Below w.heap.size w wx)
  case first =>
    have hno := hne.out
    rcases hcls.out with e | ⟨e1, e2⟩ | ⟨e1, e2, e3⟩
    all_goals
      go_wp2_with fail
      go_meet
      exact ⟨by first | rfl | (simp [hb.out]; done) | (simp [hb.out]; omega), k31, k32, k33, k34, k35, k36, hv6⟩
  case rest =>
    generalize wc = V7 at hcut ⊢
    clear wc
    obtain ⟨rfl, k37, k38, k39, k40, k41, k42, hv7⟩ := hcut
    clear hv6 k31 k32 k33 k34 k35 k36 lk31 lk33 lk35
    have lk37 : w.heap.size < V7.heap.size := block_lt_of_cell k37
    have lk39 : w.heap.size + 1 < V7.heap.size := block_lt_of_cell k39
    have lk41 : w.heap.size + 1 + 1 < V7.heap.size := block_lt_of_cell k41
    go_wp2_with fail
    refine (X1.out _).mono ?_
    rintro e W8 ⟨rfl, hb8⟩
    have k43 : W8.cell? ⟨w.heap.size, 0, none⟩ = some (.int .i64 a1) := kept1 k37 hb8
    have k44 : W8.cell? ⟨w.heap.size, 1, none⟩ = some (.int .i64 a2) := kept1 k38 hb8
    have k45 : W8.cell? ⟨w.heap.size + 1, 0, none⟩ = some (.int .i64 b1) := kept1 k39 hb8
    have k46 : W8.cell? ⟨w.heap.size + 1, 1, none⟩ = some (.int .i64 b2) := kept1 k40 hb8
    have k47 : W8.cell? ⟨w.heap.size + 1 + 1, 0, none⟩ = some (.int .i64 c1) := kept1 k41 hb8
    have k48 : W8.cell? ⟨w.heap.size + 1 + 1, 1, none⟩ = some (.int .i64 c2) := kept1 k42 hb8
    have lk43 : w.heap.size < W8.heap.size := block_lt_of_cell k43
    have lk45 : w.heap.size + 1 < W8.heap.size := block_lt_of_cell k45
    have lk47 : w.heap.size + 1 + 1 < W8.heap.size := block_lt_of_cell k47
    have hv8 : Below w.heap.size w W8 := bstep0 hv7 hb8
    clear hb8 hv7 k37 k38 k39 k40 k41 k42 lk37 lk39 lk41
    go_wp2_with fail
    refine (X2.out _).mono ?_
    rintro e W9 ⟨rfl, hb9⟩
    have k49 : W9.cell? ⟨w.heap.size, 0, none⟩ = some (.int .i64 a1) := kept_a1 k43 hb9
    have k50 : W9.cell? ⟨w.heap.size, 1, none⟩ = some (.int .i64 a2) := kept_a1 k44 hb9
    have k51 : W9.cell? ⟨w.heap.size + 1, 0, none⟩ = some (.int .i64 b1) := kept_a1 k45 hb9
    have k52 : W9.cell? ⟨w.heap.size + 1, 1, none⟩ = some (.int .i64 b2) := kept_a1 k46 hb9
    have k53 : W9.cell? ⟨w.heap.size + 1 + 1, 0, none⟩ = some (.int .i64 c1) := kept_a1 k47 hb9
    have k54 : W9.cell? ⟨w.heap.size + 1 + 1, 1, none⟩ = some (.int .i64 c2) := kept_a1 k48 hb9
    have k55 : W9.cell? ⟨W8.heap.size, 0, none⟩ = some (.int .i64 x.n) := kept1 (by simp [go_sem]) hb9
    have k56 : W9.cell? ⟨W8.heap.size, 1, none⟩ = some (.int .i64 x.d) := kept1 (by simp [go_sem]) hb9
    have lk49 : w.heap.size < W9.heap.size := block_lt_of_cell k49
    have lk51 : w.heap.size + 1 < W9.heap.size := block_lt_of_cell k51
    have lk53 : w.heap.size + 1 + 1 < W9.heap.size := block_lt_of_cell k53
    have lk55 : W8.heap.size < W9.heap.size := block_lt_of_cell k55
    have hv9 : Below w.heap.size w W9 := bstep1 hv8 hb9
    clear hb9 hv8 k43 k44 k45 k46 k47 k48 lk43 lk45 lk47
    go_upto_region 11 with fail
    have k57 : (W9.alloc (Obj.cells #[.int .i64 y.n, .int .i64 y.d] 23)).cell? ⟨w.heap.size, 0, none⟩ = some (.int .i64 a1) := (cell_alloc k49 _)
    have k58 : (W9.alloc (Obj.cells #[.int .i64 y.n, .int .i64 y.d] 23)).cell? ⟨w.heap.size, 1, none⟩ = some (.int .i64 a2) := (cell_alloc k50 _)
    have k59 : (W9.alloc (Obj.cells #[.int .i64 y.n, .int .i64 y.d] 23)).cell? ⟨w.heap.size + 1, 0, none⟩ = some (.int .i64 b1) := (cell_alloc k51 _)
    have k60 : (W9.alloc (Obj.cells #[.int .i64 y.n, .int .i64 y.d] 23)).cell? ⟨w.heap.size + 1, 1, none⟩ = some (.int .i64 b2) := (cell_alloc k52 _)
    have k61 : (W9.alloc (Obj.cells #[.int .i64 y.n, .int .i64 y.d] 23)).cell? ⟨w.heap.size + 1 + 1, 0, none⟩ = some (.int .i64 c1) := (cell_alloc k53 _)
    have k62 : (W9.alloc (Obj.cells #[.int .i64 y.n, .int .i64 y.d] 23)).cell? ⟨w.heap.size + 1 + 1, 1, none⟩ = some (.int .i64 c2) := (cell_alloc k54 _)
    have k63 : (W9.alloc (Obj.cells #[.int .i64 y.n, .int .i64 y.d] 23)).cell? ⟨W8.heap.size, 0, none⟩ = some (.int .i64 x.n) := (cell_alloc k55 _)
    have k64 : (W9.alloc (Obj.cells #[.int .i64 y.n, .int .i64 y.d] 23)).cell? ⟨W8.heap.size, 1, none⟩ = some (.int .i64 x.d) := (cell_alloc k56 _)
    have k65 : (W9.alloc (Obj.cells #[.int .i64 y.n, .int .i64 y.d] 23)).cell? ⟨W9.heap.size, 0, none⟩ = some (.int .i64 y.n) := by simp [go_sem]
    have k66 : (W9.alloc (Obj.cells #[.int .i64 y.n, .int .i64 y.d] 23)).cell? ⟨W9.heap.size, 1, none⟩ = some (.int .i64 y.d) := by simp [go_sem]
    have lk57 : w.heap.size < (W9.alloc (Obj.cells #[.int .i64 y.n, .int .i64 y.d] 23)).heap.size := block_lt_of_cell k57
    have lk59 : w.heap.size + 1 < (W9.alloc (Obj.cells #[.int .i64 y.n, .int .i64 y.d] 23)).heap.size := block_lt_of_cell k59
    have lk61 : w.heap.size + 1 + 1 < (W9.alloc (Obj.cells #[.int .i64 y.n, .int .i64 y.d] 23)).heap.size := block_lt_of_cell k61
    have lk63 : W8.heap.size < (W9.alloc (Obj.cells #[.int .i64 y.n, .int .i64 y.d] 23)).heap.size := block_lt_of_cell k63
    have lk65 : W9.heap.size < (W9.alloc (Obj.cells #[.int .i64 y.n, .int .i64 y.d] 23)).heap.size := block_lt_of_cell k65
    have hv10 : Below w.heap.size w (W9.alloc (Obj.cells #[.int .i64 y.n, .int .i64 y.d] 23)) := (below_alloc hv9 _)
    clear hv9 k49 k50 k51 k52 k53 k54 k55 k56 lk49 lk51 lk53 lk55
    generalize (W9.alloc (Obj.cells #[.int .i64 y.n, .int .i64 y.d] 23)) = X10 at *
    have hTX : Hid (Tab X10.drew.heap.size X10.drew) := Lib.hid (Lib.tabBelow_of_tabIs (hT.out.on hv10.drew).here)
    go_cut [16, 18, 120] from 103 to 120 (fun _ _ s120 wx => s120 = .bool t1 ∧ wx.cell? ⟨w.heap.size, 0, none⟩ = some (.int .i64 a1) ∧ wx.cell? ⟨w.heap.size, 1, none⟩ = some (.int .i64 a2) ∧ wx.cell? ⟨w.heap.size + 1, 0, none⟩ = some (.int .i64 b1) ∧ wx.cell? ⟨w.heap.size + 1, 1, none⟩ = some (.int .i64 b2) ∧ wx.cell? ⟨w.heap.size + 1 + 1, 0, none⟩ = some (.int .i64 c1) ∧ wx.cell? ⟨w.heap.size + 1 + 1, 1, none⟩ = some (.int .i64 c2) ∧ wx.cell? ⟨W8.heap.size, 0, none⟩ = some (.int .i64 x.n) ∧ wx.cell? ⟨W8.heap.size, 1, none⟩ = some (.int .i64 x.d) ∧ wx.cell? ⟨W9.heap.size, 0, none⟩ = some (.int .i64 y.n) ∧ wx.cell? ⟨W9.heap.size, 1, none⟩ = some (.int .i64 y.d) ∧ Below w.heap.size w wx)
    case first =>
      rcases h1.out with ⟨e1, e2, rfl⟩ | ⟨e1, e2, rfl⟩ | ⟨e1, rfl⟩
      all_goals
        go_wp2_with fail
        go_meet
        exact ⟨rfl, k57, k58, k59, k60, k61, k62, k63, k64, k65, k66, hv10⟩
    case rest =>
      generalize wc = V11 at hcut ⊢
      clear wc
      obtain ⟨rfl, k67, k68, k69, k70, k71, k72, k73, k74, k75, k76, hv11⟩ := hcut
      clear hv10 k57 k58 k59 k60 k61 k62 k63 k64 k65 k66 lk57 lk59 lk61 lk63 lk65
      have lk67 : w.heap.size < V11.heap.size := block_lt_of_cell k67
      have lk69 : w.heap.size + 1 < V11.heap.size := block_lt_of_cell k69
      have lk71 : w.heap.size + 1 + 1 < V11.heap.size := block_lt_of_cell k71
      have lk73 : W8.heap.size < V11.heap.size := block_lt_of_cell k73
      have lk75 : W9.heap.size < V11.heap.size := block_lt_of_cell k75
      go_upto_if 120 with fail
      go_cut [] from 120 to 133 (fun wx => wx.cell? ⟨w.heap.size, 0, none⟩ = some (.int .i64 a1) ∧ wx.cell? ⟨w.heap.size, 1, none⟩ = some (.int .i64 a2) ∧ wx.cell? ⟨w.heap.size + 1, 0, none⟩ = some (.int .i64 b1) ∧ wx.cell? ⟨w.heap.size + 1, 1, none⟩ = some (.int .i64 b2) ∧ wx.cell? ⟨w.heap.size + 1 + 1, 0, none⟩ = some (.int .i64 c1) ∧ wx.cell? ⟨w.heap.size + 1 + 1, 1, none⟩ = some (.int .i64 c2) ∧ wx.cell? ⟨W8.heap.size, 0, none⟩ = some (.int .i64 x.n) ∧ wx.cell? ⟨W8.heap.size, 1, none⟩ = some (.int .i64 x.d) ∧ wx.cell? ⟨W9.heap.size, 0, none⟩ = some (.int .i64 y.n) ∧ wx.cell? ⟨W9.heap.size, 1, none⟩ = some (.int .i64 y.d) ∧ Below w.heap.size w wx)
      case first =>
        cases t1
        case false =>
          go_wp2_with fail
          go_meet
          exact ⟨k67, k68, k69, k70, k71, k72, k73, k74, k75, k76, hv11⟩
        case true =>
          have HC := Lib.hid (XC.out rfl)
          go_wp2_with fail
          refine (HC.out _).mono ?_
          rintro e W12 ⟨rfl, hb12⟩
          have k77 : W12.cell? ⟨w.heap.size, 0, none⟩ = some (.int .i64 a1) := kept1 k67 hb12
          have k78 : W12.cell? ⟨w.heap.size, 1, none⟩ = some (.int .i64 a2) := kept1 k68 hb12
          have k79 : W12.cell? ⟨w.heap.size + 1, 0, none⟩ = some (.int .i64 b1) := kept1 k69 hb12
          have k80 : W12.cell? ⟨w.heap.size + 1, 1, none⟩ = some (.int .i64 b2) := kept1 k70 hb12
          have k81 : W12.cell? ⟨w.heap.size + 1 + 1, 0, none⟩ = some (.int .i64 c1) := kept1 k71 hb12
          have k82 : W12.cell? ⟨w.heap.size + 1 + 1, 1, none⟩ = some (.int .i64 c2) := kept1 k72 hb12
          have k83 : W12.cell? ⟨W8.heap.size, 0, none⟩ = some (.int .i64 x.n) := kept1 k73 hb12
          have k84 : W12.cell? ⟨W8.heap.size, 1, none⟩ = some (.int .i64 x.d) := kept1 k74 hb12
          have k85 : W12.cell? ⟨W9.heap.size, 0, none⟩ = some (.int .i64 y.n) := kept1 k75 hb12
          have k86 : W12.cell? ⟨W9.heap.size, 1, none⟩ = some (.int .i64 y.d) := kept1 k76 hb12
          have lk77 : w.heap.size < W12.heap.size := block_lt_of_cell k77
          have lk79 : w.heap.size + 1 < W12.heap.size := block_lt_of_cell k79
          have lk81 : w.heap.size + 1 + 1 < W12.heap.size := block_lt_of_cell k81
          have lk83 : W8.heap.size < W12.heap.size := block_lt_of_cell k83
          have lk85 : W9.heap.size < W12.heap.size := block_lt_of_cell k85
          have hv12 : Below w.heap.size w W12 := bstep0 hv11 hb12
          clear hb12 hv11 k67 k68 k69 k70 k71 k72 k73 k74 k75 k76 lk67 lk69 lk71 lk73 lk75
          go_wp2_with fail
          go_meet
          exact ⟨k77, k78, k79, k80, k81, k82, k83, k84, k85, k86, hv12⟩
      case rest =>
        generalize wc = V13 at hcut ⊢
        clear wc
        obtain ⟨k87, k88, k89, k90, k91, k92, k93, k94, k95, k96, hv13⟩ := hcut
        clear hv11 k67 k68 k69 k70 k71 k72 k73 k74 k75 k76 lk67 lk69 lk71 lk73 lk75
        have lk87 : w.heap.size < V13.heap.size := block_lt_of_cell k87
        have lk89 : w.heap.size + 1 < V13.heap.size := block_lt_of_cell k89
        have lk91 : w.heap.size + 1 + 1 < V13.heap.size := block_lt_of_cell k91
        have lk93 : W8.heap.size < V13.heap.size := block_lt_of_cell k93
        have lk95 : W9.heap.size < V13.heap.size := block_lt_of_cell k95
        clear k93 k94 lk93
        clear k95 k96 lk95
        go_wp2_with fail
        refine (U1.out _).mono ?_
        rintro e W14 ⟨rfl, hb14⟩
        have k97 : W14.cell? ⟨w.heap.size, 0, none⟩ = some (.int .i64 a1) := kept1 k87 hb14
        have k98 : W14.cell? ⟨w.heap.size, 1, none⟩ = some (.int .i64 a2) := kept1 k88 hb14
        have k99 : W14.cell? ⟨w.heap.size + 1, 0, none⟩ = some (.int .i64 b1) := kept1 k89 hb14
        have k100 : W14.cell? ⟨w.heap.size + 1, 1, none⟩ = some (.int .i64 b2) := kept1 k90 hb14
        have k101 : W14.cell? ⟨w.heap.size + 1 + 1, 0, none⟩ = some (.int .i64 c1) := kept1 k91 hb14
        have k102 : W14.cell? ⟨w.heap.size + 1 + 1, 1, none⟩ = some (.int .i64 c2) := kept1 k92 hb14
        have lk97 : w.heap.size < W14.heap.size := block_lt_of_cell k97
        have lk99 : w.heap.size + 1 < W14.heap.size := block_lt_of_cell k99
        have lk101 : w.heap.size + 1 + 1 < W14.heap.size := block_lt_of_cell k101
        have hv14 : Below w.heap.size w W14 := bstep0 hv13 hb14
        clear hb14 hv13 k87 k88 k89 k90 k91 k92 lk87 lk89 lk91
        go_wp2_with fail
        refine (U2.out _).mono ?_
        rintro e W15 ⟨rfl, hb15⟩
        have k103 : W15.cell? ⟨w.heap.size, 0, none⟩ = some (.int .i64 a1) := kept_a1 k97 hb15
        have k104 : W15.cell? ⟨w.heap.size, 1, none⟩ = some (.int .i64 a2) := kept_a1 k98 hb15
        have k105 : W15.cell? ⟨w.heap.size + 1, 0, none⟩ = some (.int .i64 b1) := kept_a1 k99 hb15
        have k106 : W15.cell? ⟨w.heap.size + 1, 1, none⟩ = some (.int .i64 b2) := kept_a1 k100 hb15
        have k107 : W15.cell? ⟨w.heap.size + 1 + 1, 0, none⟩ = some (.int .i64 c1) := kept_a1 k101 hb15
        have k108 : W15.cell? ⟨w.heap.size + 1 + 1, 1, none⟩ = some (.int .i64 c2) := kept_a1 k102 hb15
        have k109 : W15.cell? ⟨W14.heap.size, 0, none⟩ = some (.int .i64 u.n) := kept1 (by simp [go_sem]) hb15
        have k110 : W15.cell? ⟨W14.heap.size, 1, none⟩ = some (.int .i64 u.d) := kept1 (by simp [go_sem]) hb15
        have lk103 : w.heap.size < W15.heap.size := block_lt_of_cell k103
        have lk105 : w.heap.size + 1 < W15.heap.size := block_lt_of_cell k105
        have lk107 : w.heap.size + 1 + 1 < W15.heap.size := block_lt_of_cell k107
        have lk109 : W14.heap.size < W15.heap.size := block_lt_of_cell k109
        have hv15 : Below w.heap.size w W15 := bstep1 hv14 hb15
        clear hb15 hv14 k97 k98 k99 k100 k101 k102 lk97 lk99 lk101
        go_upto_region 17 with fail
        have k111 : (W15.alloc (Obj.cells #[.int .i64 v.n, .int .i64 v.d] 23)).cell? ⟨w.heap.size, 0, none⟩ = some (.int .i64 a1) := (cell_alloc k103 _)
        have k112 : (W15.alloc (Obj.cells #[.int .i64 v.n, .int .i64 v.d] 23)).cell? ⟨w.heap.size, 1, none⟩ = some (.int .i64 a2) := (cell_alloc k104 _)
        have k113 : (W15.alloc (Obj.cells #[.int .i64 v.n, .int .i64 v.d] 23)).cell? ⟨w.heap.size + 1, 0, none⟩ = some (.int .i64 b1) := (cell_alloc k105 _)
        have k114 : (W15.alloc (Obj.cells #[.int .i64 v.n, .int .i64 v.d] 23)).cell? ⟨w.heap.size + 1, 1, none⟩ = some (.int .i64 b2) := (cell_alloc k106 _)
        have k115 : (W15.alloc (Obj.cells #[.int .i64 v.n, .int .i64 v.d] 23)).cell? ⟨w.heap.size + 1 + 1, 0, none⟩ = some (.int .i64 c1) := (cell_alloc k107 _)
        have k116 : (W15.alloc (Obj.cells #[.int .i64 v.n, .int .i64 v.d] 23)).cell? ⟨w.heap.size + 1 + 1, 1, none⟩ = some (.int .i64 c2) := (cell_alloc k108 _)
        have k117 : (W15.alloc (Obj.cells #[.int .i64 v.n, .int .i64 v.d] 23)).cell? ⟨W14.heap.size, 0, none⟩ = some (.int .i64 u.n) := (cell_alloc k109 _)
        have k118 : (W15.alloc (Obj.cells #[.int .i64 v.n, .int .i64 v.d] 23)).cell? ⟨W14.heap.size, 1, none⟩ = some (.int .i64 u.d) := (cell_alloc k110 _)
        have k119 : (W15.alloc (Obj.cells #[.int .i64 v.n, .int .i64 v.d] 23)).cell? ⟨W15.heap.size, 0, none⟩ = some (.int .i64 v.n) := by simp [go_sem]
        have k120 : (W15.alloc (Obj.cells #[.int .i64 v.n, .int .i64 v.d] 23)).cell? ⟨W15.heap.size, 1, none⟩ = some (.int .i64 v.d) := by simp [go_sem]
        have lk111 : w.heap.size < (W15.alloc (Obj.cells #[.int .i64 v.n, .int .i64 v.d] 23)).heap.size := block_lt_of_cell k111
        have lk113 : w.heap.size + 1 < (W15.alloc (Obj.cells #[.int .i64 v.n, .int .i64 v.d] 23)).heap.size := block_lt_of_cell k113
        have lk115 : w.heap.size + 1 + 1 < (W15.alloc (Obj.cells #[.int .i64 v.n, .int .i64 v.d] 23)).heap.size := block_lt_of_cell k115
        have lk117 : W14.heap.size < (W15.alloc (Obj.cells #[.int .i64 v.n, .int .i64 v.d] 23)).heap.size := block_lt_of_cell k117
        have lk119 : W15.heap.size < (W15.alloc (Obj.cells #[.int .i64 v.n, .int .i64 v.d] 23)).heap.size := block_lt_of_cell k119
        have hv16 : Below w.heap.size w (W15.alloc (Obj.cells #[.int .i64 v.n, .int .i64 v.d] 23)) := (below_alloc hv15 _)
        clear hv15 k103 k104 k105 k106 k107 k108 k109 k110 lk103 lk105 lk107 lk109
        generalize (W15.alloc (Obj.cells #[.int .i64 v.n, .int .i64 v.d] 23)) = X16 at *
        have hTX : Hid (Tab X16.drew.heap.size X16.drew) := Lib.hid (Lib.tabBelow_of_tabIs (hT.out.on hv16.drew).here)
        go_cut [16, 18, 156] from 134 to 156 (fun _ _ s156 wx => s156 = .bool t2 ∧ wx.cell? ⟨w.heap.size, 0, none⟩ = some (.int .i64 a1) ∧ wx.cell? ⟨w.heap.size, 1, none⟩ = some (.int .i64 a2) ∧ wx.cell? ⟨w.heap.size + 1, 0, none⟩ = some (.int .i64 b1) ∧ wx.cell? ⟨w.heap.size + 1, 1, none⟩ = some (.int .i64 b2) ∧ wx.cell? ⟨w.heap.size + 1 + 1, 0, none⟩ = some (.int .i64 c1) ∧ wx.cell? ⟨w.heap.size + 1 + 1, 1, none⟩ = some (.int .i64 c2) ∧ wx.cell? ⟨W14.heap.size, 0, none⟩ = some (.int .i64 u.n) ∧ wx.cell? ⟨W14.heap.size, 1, none⟩ = some (.int .i64 u.d) ∧ wx.cell? ⟨W15.heap.size, 0, none⟩ = some (.int .i64 v.n) ∧ wx.cell? ⟨W15.heap.size, 1, none⟩ = some (.int .i64 v.d) ∧ Below w.heap.size w wx)
        case first =>
          rcases h2.out with ⟨e1, e2, e3, rfl⟩ | ⟨e1, e2, e3, rfl⟩ | ⟨e1, e2, rfl⟩ | ⟨e1, rfl⟩
          all_goals
            go_wp2_with fail
            go_meet
            exact ⟨by first | rfl | (simp; omega), k111, k112, k113, k114, k115, k116, k117, k118, k119, k120, hv16⟩
        case rest =>
          generalize wc = V17 at hcut ⊢
          clear wc
          obtain ⟨rfl, k121, k122, k123, k124, k125, k126, k127, k128, k129, k130, hv17⟩ := hcut
          clear hv16 k111 k112 k113 k114 k115 k116 k117 k118 k119 k120 lk111 lk113 lk115 lk117 lk119
          have lk121 : w.heap.size < V17.heap.size := block_lt_of_cell k121
          have lk123 : w.heap.size + 1 < V17.heap.size := block_lt_of_cell k123
          have lk125 : w.heap.size + 1 + 1 < V17.heap.size := block_lt_of_cell k125
          have lk127 : W14.heap.size < V17.heap.size := block_lt_of_cell k127
          have lk129 : W15.heap.size < V17.heap.size := block_lt_of_cell k129
          go_upto_if 156 with fail
          go_cut [] from 156 to 169 (fun wx => wx.cell? ⟨w.heap.size, 0, none⟩ = some (.int .i64 a1) ∧ wx.cell? ⟨w.heap.size, 1, none⟩ = some (.int .i64 a2) ∧ wx.cell? ⟨w.heap.size + 1, 0, none⟩ = some (.int .i64 b1) ∧ wx.cell? ⟨w.heap.size + 1, 1, none⟩ = some (.int .i64 b2) ∧ wx.cell? ⟨w.heap.size + 1 + 1, 0, none⟩ = some (.int .i64 c1) ∧ wx.cell? ⟨w.heap.size + 1 + 1, 1, none⟩ = some (.int .i64 c2) ∧ wx.cell? ⟨W14.heap.size, 0, none⟩ = some (.int .i64 u.n) ∧ wx.cell? ⟨W14.heap.size, 1, none⟩ = some (.int .i64 u.d) ∧ wx.cell? ⟨W15.heap.size, 0, none⟩ = some (.int .i64 v.n) ∧ wx.cell? ⟨W15.heap.size, 1, none⟩ = some (.int .i64 v.d) ∧ Below w.heap.size w wx)
          case first =>
            cases t2
            case false =>
              go_wp2_with fail
              go_meet
              exact ⟨k121, k122, k123, k124, k125, k126, k127, k128, k129, k130, hv17⟩
            case true =>
              have HC := Lib.hid (UC.out rfl)
              go_wp2_with fail
              refine (HC.out _).mono ?_
              rintro e W18 ⟨rfl, hb18⟩
              have k131 : W18.cell? ⟨w.heap.size, 0, none⟩ = some (.int .i64 a1) := kept1 k121 hb18
              have k132 : W18.cell? ⟨w.heap.size, 1, none⟩ = some (.int .i64 a2) := kept1 k122 hb18
              have k133 : W18.cell? ⟨w.heap.size + 1, 0, none⟩ = some (.int .i64 b1) := kept1 k123 hb18
              have k134 : W18.cell? ⟨w.heap.size + 1, 1, none⟩ = some (.int .i64 b2) := kept1 k124 hb18
              have k135 : W18.cell? ⟨w.heap.size + 1 + 1, 0, none⟩ = some (.int .i64 c1) := kept1 k125 hb18
              have k136 : W18.cell? ⟨w.heap.size + 1 + 1, 1, none⟩ = some (.int .i64 c2) := kept1 k126 hb18
              have k137 : W18.cell? ⟨W14.heap.size, 0, none⟩ = some (.int .i64 u.n) := kept1 k127 hb18
              have k138 : W18.cell? ⟨W14.heap.size, 1, none⟩ = some (.int .i64 u.d) := kept1 k128 hb18
              have k139 : W18.cell? ⟨W15.heap.size, 0, none⟩ = some (.int .i64 v.n) := kept1 k129 hb18
              have k140 : W18.cell? ⟨W15.heap.size, 1, none⟩ = some (.int .i64 v.d) := kept1 k130 hb18
              have lk131 : w.heap.size < W18.heap.size := block_lt_of_cell k131
              have lk133 : w.heap.size + 1 < W18.heap.size := block_lt_of_cell k133
              have lk135 : w.heap.size + 1 + 1 < W18.heap.size := block_lt_of_cell k135
              have lk137 : W14.heap.size < W18.heap.size := block_lt_of_cell k137
              have lk139 : W15.heap.size < W18.heap.size := block_lt_of_cell k139
              have hv18 : Below w.heap.size w W18 := bstep0 hv17 hb18
              clear hb18 hv17 k121 k122 k123 k124 k125 k126 k127 k128 k129 k130 lk121 lk123 lk125 lk127 lk129
              go_wp2_with fail
              go_meet
              exact ⟨k131, k132, k133, k134, k135, k136, k137, k138, k139, k140, hv18⟩
          case rest =>
            generalize wc = V19 at hcut ⊢
            clear wc
            obtain ⟨k141, k142, k143, k144, k145, k146, k147, k148, k149, k150, hv19⟩ := hcut
            clear hv17 k121 k122 k123 k124 k125 k126 k127 k128 k129 k130 lk121 lk123 lk125 lk127 lk129
            have lk141 : w.heap.size < V19.heap.size := block_lt_of_cell k141
            have lk143 : w.heap.size + 1 < V19.heap.size := block_lt_of_cell k143
            have lk145 : w.heap.size + 1 + 1 < V19.heap.size := block_lt_of_cell k145
            have lk147 : W14.heap.size < V19.heap.size := block_lt_of_cell k147
            have lk149 : W15.heap.size < V19.heap.size := block_lt_of_cell k149
            clear k147 k148 lk147
            clear k149 k150 lk149
            go_wp2_with fail
            refine (M1.out _).mono ?_
            rintro e W20 ⟨rfl, hb20⟩
            have k151 : W20.cell? ⟨w.heap.size, 0, none⟩ = some (.int .i64 a1) := kept1 k141 hb20
            have k152 : W20.cell? ⟨w.heap.size, 1, none⟩ = some (.int .i64 a2) := kept1 k142 hb20
            have k153 : W20.cell? ⟨w.heap.size + 1, 0, none⟩ = some (.int .i64 b1) := kept1 k143 hb20
            have k154 : W20.cell? ⟨w.heap.size + 1, 1, none⟩ = some (.int .i64 b2) := kept1 k144 hb20
            have k155 : W20.cell? ⟨w.heap.size + 1 + 1, 0, none⟩ = some (.int .i64 c1) := kept1 k145 hb20
            have k156 : W20.cell? ⟨w.heap.size + 1 + 1, 1, none⟩ = some (.int .i64 c2) := kept1 k146 hb20
            have lk151 : w.heap.size < W20.heap.size := block_lt_of_cell k151
            have lk153 : w.heap.size + 1 < W20.heap.size := block_lt_of_cell k153
            have lk155 : w.heap.size + 1 + 1 < W20.heap.size := block_lt_of_cell k155
            have hv20 : Below w.heap.size w W20 := bstep0 hv19 hb20
            clear hb20 hv19 k141 k142 k143 k144 k145 k146 lk141 lk143 lk145
            go_wp2_with fail
            refine (MA.out _).mono ?_
            rintro e W21 ⟨rfl, hb21⟩
            have k157 : W21.cell? ⟨w.heap.size, 0, none⟩ = some (.int .i64 a1) := kept_a1 k151 hb21
            have k158 : W21.cell? ⟨w.heap.size, 1, none⟩ = some (.int .i64 a2) := kept_a1 k152 hb21
            have k159 : W21.cell? ⟨w.heap.size + 1, 0, none⟩ = some (.int .i64 b1) := kept_a1 k153 hb21
            have k160 : W21.cell? ⟨w.heap.size + 1, 1, none⟩ = some (.int .i64 b2) := kept_a1 k154 hb21
            have k161 : W21.cell? ⟨w.heap.size + 1 + 1, 0, none⟩ = some (.int .i64 c1) := kept_a1 k155 hb21
            have k162 : W21.cell? ⟨w.heap.size + 1 + 1, 1, none⟩ = some (.int .i64 c2) := kept_a1 k156 hb21
            have k163 : W21.cell? ⟨W20.heap.size, 0, none⟩ = some (.int .i64 m1) := kept1 (by simp [go_sem]) hb21
            have k164 : W21.cell? ⟨W20.heap.size, 1, none⟩ = some (.int .i64 m2) := kept1 (by simp [go_sem]) hb21
            have lk157 : w.heap.size < W21.heap.size := block_lt_of_cell k157
            have lk159 : w.heap.size + 1 < W21.heap.size := block_lt_of_cell k159
            have lk161 : w.heap.size + 1 + 1 < W21.heap.size := block_lt_of_cell k161
            have lk163 : W20.heap.size < W21.heap.size := block_lt_of_cell k163
            have hv21 : Below w.heap.size w W21 := bstep1 hv20 hb21
            clear hb21 hv20 k151 k152 k153 k154 k155 k156 lk151 lk153 lk155
            go_wp2_with fail
            refine (MB.out _).mono ?_
            rintro e W22 ⟨rfl, hb22⟩
            have k165 : W22.cell? ⟨w.heap.size, 0, none⟩ = some (.int .i64 a1) := kept1 k157 hb22
            have k166 : W22.cell? ⟨w.heap.size, 1, none⟩ = some (.int .i64 a2) := kept1 k158 hb22
            have k167 : W22.cell? ⟨w.heap.size + 1, 0, none⟩ = some (.int .i64 b1) := kept1 k159 hb22
            have k168 : W22.cell? ⟨w.heap.size + 1, 1, none⟩ = some (.int .i64 b2) := kept1 k160 hb22
            have k169 : W22.cell? ⟨w.heap.size + 1 + 1, 0, none⟩ = some (.int .i64 c1) := kept1 k161 hb22
            have k170 : W22.cell? ⟨w.heap.size + 1 + 1, 1, none⟩ = some (.int .i64 c2) := kept1 k162 hb22
            have k171 : W22.cell? ⟨W20.heap.size, 0, none⟩ = some (.int .i64 m1) := kept1 k163 hb22
            have k172 : W22.cell? ⟨W20.heap.size, 1, none⟩ = some (.int .i64 m2) := kept1 k164 hb22
            have lk165 : w.heap.size < W22.heap.size := block_lt_of_cell k165
            have lk167 : w.heap.size + 1 < W22.heap.size := block_lt_of_cell k167
            have lk169 : w.heap.size + 1 + 1 < W22.heap.size := block_lt_of_cell k169
            have lk171 : W20.heap.size < W22.heap.size := block_lt_of_cell k171
            have hv22 : Below w.heap.size w W22 := bstep0 hv21 hb22
            clear hb22 hv21 k157 k158 k159 k160 k161 k162 k163 k164 lk157 lk159 lk161 lk163
            go_wp2_with fail
            refine (sanity_tab hT _ hv22).mono ?_
            rintro e W23 ⟨rfl, hb23⟩
            have k173 : W23.cell? ⟨w.heap.size, 0, none⟩ = some (.int .i64 a1) := kept1 k165 hb23
            have k174 : W23.cell? ⟨w.heap.size, 1, none⟩ = some (.int .i64 a2) := kept1 k166 hb23
            have k175 : W23.cell? ⟨w.heap.size + 1, 0, none⟩ = some (.int .i64 b1) := kept1 k167 hb23
            have k176 : W23.cell? ⟨w.heap.size + 1, 1, none⟩ = some (.int .i64 b2) := kept1 k168 hb23
            have k177 : W23.cell? ⟨w.heap.size + 1 + 1, 0, none⟩ = some (.int .i64 c1) := kept1 k169 hb23
            have k178 : W23.cell? ⟨w.heap.size + 1 + 1, 1, none⟩ = some (.int .i64 c2) := kept1 k170 hb23
            have k179 : W23.cell? ⟨W20.heap.size, 0, none⟩ = some (.int .i64 m1) := kept1 k171 hb23
            have k180 : W23.cell? ⟨W20.heap.size, 1, none⟩ = some (.int .i64 m2) := kept1 k172 hb23
            have lk173 : w.heap.size < W23.heap.size := block_lt_of_cell k173
            have lk175 : w.heap.size + 1 < W23.heap.size := block_lt_of_cell k175
            have lk177 : w.heap.size + 1 + 1 < W23.heap.size := block_lt_of_cell k177
            have lk179 : W20.heap.size < W23.heap.size := block_lt_of_cell k179
            have hv23 : Below w.heap.size w W23 := bstep0 hv22 hb23
            clear hb23 hv22 k165 k166 k167 k168 k169 k170 k171 k172 lk165 lk167 lk169 lk171
            go_wp2
            go_ret
            exact ⟨by first | rfl | simp, (by repeat (first | with_reducible exact Below.refl _ _ | with_reducible assumption | refine below_drewN ?_ _ | refine Below.drew ?_ | refine Below.alloc ?_ (by first | (simp; done) | (simp; omega) | omega) _ | refine Below.setCell ?_ (by first | (simp; done) | (simp; omega) | omega) _ | refine Below.trans ?_ (Below.mono (by assumption) (by first | (simp; done) | (simp; omega) | omega))))⟩

end Go.Proofs.YtpbomeoonknifaaDoor
