/- The law ExactBetween, one of three cases. -/
import Derived.Test.YtpbomeoonknifaaDoorSz
namespace Go.Proofs.YtpbomeoonknifaaDoor
open Go.RowKit Go.Shelf

set_option maxRecDepth 100000 in
set_option maxHeartbeats 8000000 in
theorem between_nr0 (a b c d e f g h i j k l n m1 m2 m3 m4 h1 h2 h3 h4 s1 s2 s3 s4 q1 q2 q3 q4 w1 w2 z1 z2 r1 r2 : Int) (ME SE PE WE x y : Rt.Num) (t u mt yb kt : Bool) (hx : Hid (vrP a b c d)) (hy : Hid (vrP e f g h)) (KW : Hid (∀ W : World, Calls Tryd.prog 31 #[.agg #[.int .i64 i, .int .i64 j], .agg #[.int .i64 k, .int .i64 l]] W fun e w' => e = .returned (.bool false) ∧ Below W.heap.size W w')) (HX : Hid (∀ W : World, Calls Tryd.prog 55 #[.agg #[.int .i64 a, .int .i64 b, .int .i64 c, .int .i64 d], .agg #[.int .i64 i, .int .i64 j]] W fun e w' => e = .returned (.bool t) ∧ Below W.heap.size W w')) (HY : Hid (∀ W : World, Calls Tryd.prog 55 #[.agg #[.int .i64 e, .int .i64 f, .int .i64 g, .int .i64 h], .agg #[.int .i64 i, .int .i64 j]] W fun e w' => e = .returned (.bool u) ∧ Below W.heap.size W w')) (HM : Hid (∀ W : World, Calls Tryd.prog 57 #[.agg #[.int .i64 a, .int .i64 b, .int .i64 c, .int .i64 d], .agg #[.int .i64 e, .int .i64 f, .int .i64 g, .int .i64 h]] W fun e w' => e = .returned (.tuple #[.agg #[.int .i64 m1, .int .i64 m2, .int .i64 m3, .int .i64 m4], .int .i64 ME.e]) ∧ Below W.heap.size W w')) (HH : Hid (∀ W : World, Calls Tryd.prog 58 #[.agg #[.int .i64 a, .int .i64 b, .int .i64 c, .int .i64 d], .agg #[.int .i64 e, .int .i64 f, .int .i64 g, .int .i64 h]] W fun e w' => e = .returned (.tuple #[.agg #[.int .i64 h1, .int .i64 h2, .int .i64 h3, .int .i64 h4], .int .i64 0]) ∧ Below W.heap.size W w')) (HMA : Hid (ME.e = 0 → ∀ W : World, Calls Tryd.prog 55 #[.agg #[.int .i64 m1, .int .i64 m2, .int .i64 m3, .int .i64 m4], .agg #[.int .i64 i, .int .i64 j]] W fun e w' => e = .returned (.bool mt) ∧ Below W.heap.size W w')) (HHA : Hid ((t || u) = true → ∀ W : World, Calls Tryd.prog 55 #[.agg #[.int .i64 h1, .int .i64 h2, .int .i64 h3, .int .i64 h4], .agg #[.int .i64 i, .int .i64 j]] W fun e w' => e = .returned (.bool true) ∧ Below W.heap.size W w')) (c7 : Hid ((ME.e = 0 ∧ t = true ∧ u = true ∧ mt = true) ∨ (ME.e = 0 ∧ t = true ∧ u = false ∧ mt = false) ∨ (ME.e = 0 ∧ t = false ∧ u = true ∧ mt = false) ∨ (ME.e = 0 ∧ t = false ∧ u = false ∧ mt = false) ∨ (ME.e ≠ 0 ∧ t = true ∧ u = false) ∨ (ME.e ≠ 0 ∧ t = false ∧ u = true) ∨ (ME.e ≠ 0 ∧ t = false ∧ u = false))) (HS : Hid (∀ W : World, Calls Tryd.prog 59 #[.agg #[.int .i64 a, .int .i64 b, .int .i64 c, .int .i64 d], .agg #[.int .i64 e, .int .i64 f, .int .i64 g, .int .i64 h]] W fun e w' => e = .returned (.tuple #[.agg #[.int .i64 s1, .int .i64 s2, .int .i64 s3, .int .i64 s4], .int .i64 SE.e]) ∧ Below W.heap.size W w')) (HA : Hid (∀ W : World, Calls Tryd.prog 25 #[.agg #[.int .i64 i, .int .i64 j], .agg #[.int .i64 k, .int .i64 l]] W fun e w' => e = .returned (.tuple #[.agg #[.int .i64 x.n, .int .i64 x.d], .int .i64 x.e]) ∧ Below W.heap.size W w')) (HYB : Hid (∀ W : World, Calls Tryd.prog 55 #[.agg #[.int .i64 e, .int .i64 f, .int .i64 g, .int .i64 h], .agg #[.int .i64 k, .int .i64 l]] W fun e w' => e = .returned (.bool yb) ∧ Below W.heap.size W w')) (HSX : Hid (SE.e = 0 → x.e = 0 → t = true → yb = true → ∀ W : World, Calls Tryd.prog 55 #[.agg #[.int .i64 s1, .int .i64 s2, .int .i64 s3, .int .i64 s4], .agg #[.int .i64 x.n, .int .i64 x.d]] W fun e w' => e = .returned (.bool true) ∧ Below W.heap.size W w')) (c11 : Hid (SE.e ≠ 0 ∨ (SE.e = 0 ∧ x.e ≠ 0) ∨ (SE.e = 0 ∧ x.e = 0 ∧ t = false) ∨ (SE.e = 0 ∧ x.e = 0 ∧ t = true ∧ yb = false) ∨ (SE.e = 0 ∧ x.e = 0 ∧ t = true ∧ yb = true))) (HP : Hid (∀ W : World, Calls Tryd.prog 60 #[.agg #[.int .i64 a, .int .i64 b, .int .i64 c, .int .i64 d], .agg #[.int .i64 k, .int .i64 l]] W fun e w' => e = .returned (.tuple #[.agg #[.int .i64 q1, .int .i64 q2, .int .i64 q3, .int .i64 q4], .int .i64 PE.e]) ∧ Below W.heap.size W w')) (HQ : Hid (∀ W : World, Calls Tryd.prog 27 #[.agg #[.int .i64 i, .int .i64 j], .agg #[.int .i64 k, .int .i64 l]] W fun e w' => e = .returned (.tuple #[.agg #[.int .i64 y.n, .int .i64 y.d], .int .i64 y.e]) ∧ Below W.heap.size W w')) (HPY : Hid (PE.e = 0 → y.e = 0 → t = true → ∀ W : World, Calls Tryd.prog 55 #[.agg #[.int .i64 q1, .int .i64 q2, .int .i64 q3, .int .i64 q4], .agg #[.int .i64 y.n, .int .i64 y.d]] W fun e w' => e = .returned (.bool true) ∧ Below W.heap.size W w')) (c15 : Hid (PE.e ≠ 0 ∨ (PE.e = 0 ∧ y.e ≠ 0) ∨ (PE.e = 0 ∧ y.e = 0 ∧ t = false) ∨ (PE.e = 0 ∧ y.e = 0 ∧ t = true))) (HW : Hid (∀ W : World, Calls Tryd.prog 61 #[.agg #[.int .i64 a, .int .i64 b, .int .i64 c, .int .i64 d]] W fun e w' => e = .returned (.tuple #[.agg #[.int .i64 w1, .int .i64 w2], .int .i64 WE.e]) ∧ Below W.heap.size W w')) (HK : Hid (∀ W : World, Calls Tryd.prog 17 #[.int .i64 n, .int .i64 1] W fun e w' => e = .returned (.tuple #[.agg #[.int .i64 n, .int .i64 1], .int .i64 0]) ∧ Below W.heap.size W w')) (HXK : Hid (∀ W : World, Calls Tryd.prog 55 #[.agg #[.int .i64 a, .int .i64 b, .int .i64 c, .int .i64 d], .agg #[.int .i64 n, .int .i64 1]] W fun e w' => e = .returned (.bool kt) ∧ Below W.heap.size W w')) (c19 : Hid ((WE.e ≠ 0 ∧ kt = false) ∨ (WE.e = 0 ∧ n < w1 ∧ kt = false) ∨ (WE.e = 0 ∧ w1 ≤ n ∧ w2 < n ∧ kt = false) ∨ (WE.e = 0 ∧ w1 ≤ n ∧ n ≤ w2 ∧ kt = true))) (HZ : Hid (∀ W : World, Calls Tryd.prog 40 #[.agg #[.int .i64 i, .int .i64 j], .int .i64 n] W fun e w' => e = .returned (.tuple #[.agg #[.int .i64 z1, .int .i64 z2], .int .i64 0]) ∧ Below W.heap.size W w')) (zb : -4611686018427387904 ≤ z1 ∧ z1 ≤ 4611686018427387904) (c24 : Hid (z2 = z1 ∨ z2 = z1 + 1)) (HR : Hid (∀ W : World, Calls Tryd.prog 27 #[.agg #[.int .i64 i, .int .i64 j], .agg #[.int .i64 n, .int .i64 1]] W fun e w' => e = .returned (.tuple #[.agg #[.int .i64 r1, .int .i64 r2], .int .i64 0]) ∧ Below W.heap.size W w')) (HF : Hid (∀ W : World, Calls Tryd.prog 38 #[.agg #[.int .i64 r1, .int .i64 r2]] W fun e w' => e = .returned (.tuple #[.int .i64 z1, .int .i64 0]) ∧ Below W.heap.size W w')) (HC : Hid (∀ W : World, Calls Tryd.prog 39 #[.agg #[.int .i64 r1, .int .i64 r2]] W fun e w' => e = .returned (.tuple #[.int .i64 z2, .int .i64 0]) ∧ Below W.heap.size W w')) (w : World) (hT : Hid (Tab w.heap.size w)) :
    Calls Tryd.prog 16 #[.agg #[.int .i64 a, .int .i64 b, .int .i64 c, .int .i64 d], .agg #[.int .i64 e, .int .i64 f, .int .i64 g, .int .i64 h], .agg #[.int .i64 i, .int .i64 j], .agg #[.int .i64 k, .int .i64 l], .int .i64 n] w fun e w' => e = .returned (.bool true) ∧ Below w.heap.size w w' := by
  go_enter Tryd.func16, Tryd.ntmps16
  go_wp2_with fail
  refine (rvrange_yes a b c d _ hx.out).mono ?_
  rintro e W1 ⟨rfl, hb1⟩
  have k1 : W1.cell? ⟨w.heap.size, 0, none⟩ = some (.int .i64 a) := kept1 (by simp [go_sem]) hb1
  have k2 : W1.cell? ⟨w.heap.size, 1, none⟩ = some (.int .i64 b) := kept1 (by simp [go_sem]) hb1
  have k3 : W1.cell? ⟨w.heap.size, 2, none⟩ = some (.int .i64 c) := kept1 (by simp [go_sem]) hb1
  have k4 : W1.cell? ⟨w.heap.size, 3, none⟩ = some (.int .i64 d) := kept1 (by simp [go_sem]) hb1
  have k5 : W1.cell? ⟨w.heap.size + 1, 0, none⟩ = some (.int .i64 e) := kept1 (by simp [go_sem]) hb1
  have k6 : W1.cell? ⟨w.heap.size + 1, 1, none⟩ = some (.int .i64 f) := kept1 (by simp [go_sem]) hb1
  have k7 : W1.cell? ⟨w.heap.size + 1, 2, none⟩ = some (.int .i64 g) := kept1 (by simp [go_sem]) hb1
  have k8 : W1.cell? ⟨w.heap.size + 1, 3, none⟩ = some (.int .i64 h) := kept1 (by simp [go_sem]) hb1
  have k9 : W1.cell? ⟨w.heap.size + 1 + 1, 0, none⟩ = some (.int .i64 i) := kept1 (by simp [go_sem]) hb1
  have k10 : W1.cell? ⟨w.heap.size + 1 + 1, 1, none⟩ = some (.int .i64 j) := kept1 (by simp [go_sem]) hb1
  have k11 : W1.cell? ⟨w.heap.size + 1 + 1 + 1, 0, none⟩ = some (.int .i64 k) := kept1 (by simp [go_sem]) hb1
  have k12 : W1.cell? ⟨w.heap.size + 1 + 1 + 1, 1, none⟩ = some (.int .i64 l) := kept1 (by simp [go_sem]) hb1
  have lk1 : w.heap.size < W1.heap.size := block_lt_of_cell k1
  have lk5 : w.heap.size + 1 < W1.heap.size := block_lt_of_cell k5
  have lk9 : w.heap.size + 1 + 1 < W1.heap.size := block_lt_of_cell k9
  have lk11 : w.heap.size + 1 + 1 + 1 < W1.heap.size := block_lt_of_cell k11
  have hv1 : Below w.heap.size w W1 := bstep4 (Below.refl _ _) hb1
  clear hb1  
  go_wp2_with fail
  refine (rvrange_yes e f g h _ hy.out).mono ?_
  rintro e W2 ⟨rfl, hb2⟩
  have k13 : W2.cell? ⟨w.heap.size, 0, none⟩ = some (.int .i64 a) := kept1 k1 hb2
  have k14 : W2.cell? ⟨w.heap.size, 1, none⟩ = some (.int .i64 b) := kept1 k2 hb2
  have k15 : W2.cell? ⟨w.heap.size, 2, none⟩ = some (.int .i64 c) := kept1 k3 hb2
  have k16 : W2.cell? ⟨w.heap.size, 3, none⟩ = some (.int .i64 d) := kept1 k4 hb2
  have k17 : W2.cell? ⟨w.heap.size + 1, 0, none⟩ = some (.int .i64 e) := kept1 k5 hb2
  have k18 : W2.cell? ⟨w.heap.size + 1, 1, none⟩ = some (.int .i64 f) := kept1 k6 hb2
  have k19 : W2.cell? ⟨w.heap.size + 1, 2, none⟩ = some (.int .i64 g) := kept1 k7 hb2
  have k20 : W2.cell? ⟨w.heap.size + 1, 3, none⟩ = some (.int .i64 h) := kept1 k8 hb2
  have k21 : W2.cell? ⟨w.heap.size + 1 + 1, 0, none⟩ = some (.int .i64 i) := kept1 k9 hb2
  have k22 : W2.cell? ⟨w.heap.size + 1 + 1, 1, none⟩ = some (.int .i64 j) := kept1 k10 hb2
  have k23 : W2.cell? ⟨w.heap.size + 1 + 1 + 1, 0, none⟩ = some (.int .i64 k) := kept1 k11 hb2
  have k24 : W2.cell? ⟨w.heap.size + 1 + 1 + 1, 1, none⟩ = some (.int .i64 l) := kept1 k12 hb2
  have lk13 : w.heap.size < W2.heap.size := block_lt_of_cell k13
  have lk17 : w.heap.size + 1 < W2.heap.size := block_lt_of_cell k17
  have lk21 : w.heap.size + 1 + 1 < W2.heap.size := block_lt_of_cell k21
  have lk23 : w.heap.size + 1 + 1 + 1 < W2.heap.size := block_lt_of_cell k23
  have hv2 : Below w.heap.size w W2 := bstep0 hv1 hb2
  clear hb2 hv1 k1 k2 k3 k4 k5 k6 k7 k8 k9 k10 k11 k12 lk1 lk5 lk9 lk11
  go_wp2_with fail
  refine (KW.out _).mono ?_
  rintro e W3 ⟨rfl, hb3⟩
  have k25 : W3.cell? ⟨w.heap.size, 0, none⟩ = some (.int .i64 a) := kept1 k13 hb3
  have k26 : W3.cell? ⟨w.heap.size, 1, none⟩ = some (.int .i64 b) := kept1 k14 hb3
  have k27 : W3.cell? ⟨w.heap.size, 2, none⟩ = some (.int .i64 c) := kept1 k15 hb3
  have k28 : W3.cell? ⟨w.heap.size, 3, none⟩ = some (.int .i64 d) := kept1 k16 hb3
  have k29 : W3.cell? ⟨w.heap.size + 1, 0, none⟩ = some (.int .i64 e) := kept1 k17 hb3
  have k30 : W3.cell? ⟨w.heap.size + 1, 1, none⟩ = some (.int .i64 f) := kept1 k18 hb3
  have k31 : W3.cell? ⟨w.heap.size + 1, 2, none⟩ = some (.int .i64 g) := kept1 k19 hb3
  have k32 : W3.cell? ⟨w.heap.size + 1, 3, none⟩ = some (.int .i64 h) := kept1 k20 hb3
  have k33 : W3.cell? ⟨w.heap.size + 1 + 1, 0, none⟩ = some (.int .i64 i) := kept1 k21 hb3
  have k34 : W3.cell? ⟨w.heap.size + 1 + 1, 1, none⟩ = some (.int .i64 j) := kept1 k22 hb3
  have k35 : W3.cell? ⟨w.heap.size + 1 + 1 + 1, 0, none⟩ = some (.int .i64 k) := kept1 k23 hb3
  have k36 : W3.cell? ⟨w.heap.size + 1 + 1 + 1, 1, none⟩ = some (.int .i64 l) := kept1 k24 hb3
  have lk25 : w.heap.size < W3.heap.size := block_lt_of_cell k25
  have lk29 : w.heap.size + 1 < W3.heap.size := block_lt_of_cell k29
  have lk33 : w.heap.size + 1 + 1 < W3.heap.size := block_lt_of_cell k33
  have lk35 : w.heap.size + 1 + 1 + 1 < W3.heap.size := block_lt_of_cell k35
  have hv3 : Below w.heap.size w W3 := bstep0 hv2 hb3
  clear hb3 hv2 k13 k14 k15 k16 k17 k18 k19 k20 k21 k22 k23 k24 lk13 lk17 lk21 lk23
  go_wp2_with fail
  refine (HX.out _).mono ?_
  rintro e W4 ⟨rfl, hb4⟩
  have k37 : W4.cell? ⟨w.heap.size, 0, none⟩ = some (.int .i64 a) := kept1 k25 hb4
  have k38 : W4.cell? ⟨w.heap.size, 1, none⟩ = some (.int .i64 b) := kept1 k26 hb4
  have k39 : W4.cell? ⟨w.heap.size, 2, none⟩ = some (.int .i64 c) := kept1 k27 hb4
  have k40 : W4.cell? ⟨w.heap.size, 3, none⟩ = some (.int .i64 d) := kept1 k28 hb4
  have k41 : W4.cell? ⟨w.heap.size + 1, 0, none⟩ = some (.int .i64 e) := kept1 k29 hb4
  have k42 : W4.cell? ⟨w.heap.size + 1, 1, none⟩ = some (.int .i64 f) := kept1 k30 hb4
  have k43 : W4.cell? ⟨w.heap.size + 1, 2, none⟩ = some (.int .i64 g) := kept1 k31 hb4
  have k44 : W4.cell? ⟨w.heap.size + 1, 3, none⟩ = some (.int .i64 h) := kept1 k32 hb4
  have k45 : W4.cell? ⟨w.heap.size + 1 + 1, 0, none⟩ = some (.int .i64 i) := kept1 k33 hb4
  have k46 : W4.cell? ⟨w.heap.size + 1 + 1, 1, none⟩ = some (.int .i64 j) := kept1 k34 hb4
  have k47 : W4.cell? ⟨w.heap.size + 1 + 1 + 1, 0, none⟩ = some (.int .i64 k) := kept1 k35 hb4
  have k48 : W4.cell? ⟨w.heap.size + 1 + 1 + 1, 1, none⟩ = some (.int .i64 l) := kept1 k36 hb4
  have lk37 : w.heap.size < W4.heap.size := block_lt_of_cell k37
  have lk41 : w.heap.size + 1 < W4.heap.size := block_lt_of_cell k41
  have lk45 : w.heap.size + 1 + 1 < W4.heap.size := block_lt_of_cell k45
  have lk47 : w.heap.size + 1 + 1 + 1 < W4.heap.size := block_lt_of_cell k47
  have hv4 : Below w.heap.size w W4 := bstep0 hv3 hb4
  clear hb4 hv3 k25 k26 k27 k28 k29 k30 k31 k32 k33 k34 k35 k36 lk25 lk29 lk33 lk35
  go_wp2_with fail
  refine (HY.out _).mono ?_
  rintro e W5 ⟨rfl, hb5⟩
  have k49 : W5.cell? ⟨w.heap.size, 0, none⟩ = some (.int .i64 a) := kept1 k37 hb5
  have k50 : W5.cell? ⟨w.heap.size, 1, none⟩ = some (.int .i64 b) := kept1 k38 hb5
  have k51 : W5.cell? ⟨w.heap.size, 2, none⟩ = some (.int .i64 c) := kept1 k39 hb5
  have k52 : W5.cell? ⟨w.heap.size, 3, none⟩ = some (.int .i64 d) := kept1 k40 hb5
  have k53 : W5.cell? ⟨w.heap.size + 1, 0, none⟩ = some (.int .i64 e) := kept1 k41 hb5
  have k54 : W5.cell? ⟨w.heap.size + 1, 1, none⟩ = some (.int .i64 f) := kept1 k42 hb5
  have k55 : W5.cell? ⟨w.heap.size + 1, 2, none⟩ = some (.int .i64 g) := kept1 k43 hb5
  have k56 : W5.cell? ⟨w.heap.size + 1, 3, none⟩ = some (.int .i64 h) := kept1 k44 hb5
  have k57 : W5.cell? ⟨w.heap.size + 1 + 1, 0, none⟩ = some (.int .i64 i) := kept1 k45 hb5
  have k58 : W5.cell? ⟨w.heap.size + 1 + 1, 1, none⟩ = some (.int .i64 j) := kept1 k46 hb5
  have k59 : W5.cell? ⟨w.heap.size + 1 + 1 + 1, 0, none⟩ = some (.int .i64 k) := kept1 k47 hb5
  have k60 : W5.cell? ⟨w.heap.size + 1 + 1 + 1, 1, none⟩ = some (.int .i64 l) := kept1 k48 hb5
  have lk49 : w.heap.size < W5.heap.size := block_lt_of_cell k49
  have lk53 : w.heap.size + 1 < W5.heap.size := block_lt_of_cell k53
  have lk57 : w.heap.size + 1 + 1 < W5.heap.size := block_lt_of_cell k57
  have lk59 : w.heap.size + 1 + 1 + 1 < W5.heap.size := block_lt_of_cell k59
  have hv5 : Below w.heap.size w W5 := bstep0 hv4 hb5
  clear hb5 hv4 k37 k38 k39 k40 k41 k42 k43 k44 k45 k46 k47 k48 lk37 lk41 lk45 lk47
  go_wp2_with fail
  refine (HM.out _).mono ?_
  rintro e W6 ⟨rfl, hb6⟩
  have k61 : W6.cell? ⟨w.heap.size, 0, none⟩ = some (.int .i64 a) := kept1 k49 hb6
  have k62 : W6.cell? ⟨w.heap.size, 1, none⟩ = some (.int .i64 b) := kept1 k50 hb6
  have k63 : W6.cell? ⟨w.heap.size, 2, none⟩ = some (.int .i64 c) := kept1 k51 hb6
  have k64 : W6.cell? ⟨w.heap.size, 3, none⟩ = some (.int .i64 d) := kept1 k52 hb6
  have k65 : W6.cell? ⟨w.heap.size + 1, 0, none⟩ = some (.int .i64 e) := kept1 k53 hb6
  have k66 : W6.cell? ⟨w.heap.size + 1, 1, none⟩ = some (.int .i64 f) := kept1 k54 hb6
  have k67 : W6.cell? ⟨w.heap.size + 1, 2, none⟩ = some (.int .i64 g) := kept1 k55 hb6
  have k68 : W6.cell? ⟨w.heap.size + 1, 3, none⟩ = some (.int .i64 h) := kept1 k56 hb6
  have k69 : W6.cell? ⟨w.heap.size + 1 + 1, 0, none⟩ = some (.int .i64 i) := kept1 k57 hb6
  have k70 : W6.cell? ⟨w.heap.size + 1 + 1, 1, none⟩ = some (.int .i64 j) := kept1 k58 hb6
  have k71 : W6.cell? ⟨w.heap.size + 1 + 1 + 1, 0, none⟩ = some (.int .i64 k) := kept1 k59 hb6
  have k72 : W6.cell? ⟨w.heap.size + 1 + 1 + 1, 1, none⟩ = some (.int .i64 l) := kept1 k60 hb6
  have lk61 : w.heap.size < W6.heap.size := block_lt_of_cell k61
  have lk65 : w.heap.size + 1 < W6.heap.size := block_lt_of_cell k65
  have lk69 : w.heap.size + 1 + 1 < W6.heap.size := block_lt_of_cell k69
  have lk71 : w.heap.size + 1 + 1 + 1 < W6.heap.size := block_lt_of_cell k71
  have hv6 : Below w.heap.size w W6 := bstep0 hv5 hb6
  clear hb6 hv5 k49 k50 k51 k52 k53 k54 k55 k56 k57 k58 k59 k60 lk49 lk53 lk57 lk59
  go_wp2_with fail
  refine (HH.out _).mono ?_
  rintro e W7 ⟨rfl, hb7⟩
  have k73 : W7.cell? ⟨w.heap.size, 0, none⟩ = some (.int .i64 a) := kept_a1 k61 hb7
  have k74 : W7.cell? ⟨w.heap.size, 1, none⟩ = some (.int .i64 b) := kept_a1 k62 hb7
  have k75 : W7.cell? ⟨w.heap.size, 2, none⟩ = some (.int .i64 c) := kept_a1 k63 hb7
  have k76 : W7.cell? ⟨w.heap.size, 3, none⟩ = some (.int .i64 d) := kept_a1 k64 hb7
  have k77 : W7.cell? ⟨w.heap.size + 1, 0, none⟩ = some (.int .i64 e) := kept_a1 k65 hb7
  have k78 : W7.cell? ⟨w.heap.size + 1, 1, none⟩ = some (.int .i64 f) := kept_a1 k66 hb7
  have k79 : W7.cell? ⟨w.heap.size + 1, 2, none⟩ = some (.int .i64 g) := kept_a1 k67 hb7
  have k80 : W7.cell? ⟨w.heap.size + 1, 3, none⟩ = some (.int .i64 h) := kept_a1 k68 hb7
  have k81 : W7.cell? ⟨w.heap.size + 1 + 1, 0, none⟩ = some (.int .i64 i) := kept_a1 k69 hb7
  have k82 : W7.cell? ⟨w.heap.size + 1 + 1, 1, none⟩ = some (.int .i64 j) := kept_a1 k70 hb7
  have k83 : W7.cell? ⟨w.heap.size + 1 + 1 + 1, 0, none⟩ = some (.int .i64 k) := kept_a1 k71 hb7
  have k84 : W7.cell? ⟨w.heap.size + 1 + 1 + 1, 1, none⟩ = some (.int .i64 l) := kept_a1 k72 hb7
  have k85 : W7.cell? ⟨W6.heap.size, 0, none⟩ = some (.int .i64 m1) := kept1 (by simp [go_sem]) hb7
  have k86 : W7.cell? ⟨W6.heap.size, 1, none⟩ = some (.int .i64 m2) := kept1 (by simp [go_sem]) hb7
  have k87 : W7.cell? ⟨W6.heap.size, 2, none⟩ = some (.int .i64 m3) := kept1 (by simp [go_sem]) hb7
  have k88 : W7.cell? ⟨W6.heap.size, 3, none⟩ = some (.int .i64 m4) := kept1 (by simp [go_sem]) hb7
  have lk73 : w.heap.size < W7.heap.size := block_lt_of_cell k73
  have lk77 : w.heap.size + 1 < W7.heap.size := block_lt_of_cell k77
  have lk81 : w.heap.size + 1 + 1 < W7.heap.size := block_lt_of_cell k81
  have lk83 : w.heap.size + 1 + 1 + 1 < W7.heap.size := block_lt_of_cell k83
  have lk85 : W6.heap.size < W7.heap.size := block_lt_of_cell k85
  have hv7 : Below w.heap.size w W7 := bstep1 hv6 hb7
  clear hb7 hv6 k61 k62 k63 k64 k65 k66 k67 k68 k69 k70 k71 k72 lk61 lk65 lk69 lk71
  go_upto_region 7 with fail
  have k89 : (W7.alloc (Obj.cells #[.int .i64 h1, .int .i64 h2, .int .i64 h3, .int .i64 h4] 58)).cell? ⟨w.heap.size, 0, none⟩ = some (.int .i64 a) := (cell_alloc k73 _)
  have k90 : (W7.alloc (Obj.cells #[.int .i64 h1, .int .i64 h2, .int .i64 h3, .int .i64 h4] 58)).cell? ⟨w.heap.size, 1, none⟩ = some (.int .i64 b) := (cell_alloc k74 _)
  have k91 : (W7.alloc (Obj.cells #[.int .i64 h1, .int .i64 h2, .int .i64 h3, .int .i64 h4] 58)).cell? ⟨w.heap.size, 2, none⟩ = some (.int .i64 c) := (cell_alloc k75 _)
  have k92 : (W7.alloc (Obj.cells #[.int .i64 h1, .int .i64 h2, .int .i64 h3, .int .i64 h4] 58)).cell? ⟨w.heap.size, 3, none⟩ = some (.int .i64 d) := (cell_alloc k76 _)
  have k93 : (W7.alloc (Obj.cells #[.int .i64 h1, .int .i64 h2, .int .i64 h3, .int .i64 h4] 58)).cell? ⟨w.heap.size + 1, 0, none⟩ = some (.int .i64 e) := (cell_alloc k77 _)
  have k94 : (W7.alloc (Obj.cells #[.int .i64 h1, .int .i64 h2, .int .i64 h3, .int .i64 h4] 58)).cell? ⟨w.heap.size + 1, 1, none⟩ = some (.int .i64 f) := (cell_alloc k78 _)
  have k95 : (W7.alloc (Obj.cells #[.int .i64 h1, .int .i64 h2, .int .i64 h3, .int .i64 h4] 58)).cell? ⟨w.heap.size + 1, 2, none⟩ = some (.int .i64 g) := (cell_alloc k79 _)
  have k96 : (W7.alloc (Obj.cells #[.int .i64 h1, .int .i64 h2, .int .i64 h3, .int .i64 h4] 58)).cell? ⟨w.heap.size + 1, 3, none⟩ = some (.int .i64 h) := (cell_alloc k80 _)
  have k97 : (W7.alloc (Obj.cells #[.int .i64 h1, .int .i64 h2, .int .i64 h3, .int .i64 h4] 58)).cell? ⟨w.heap.size + 1 + 1, 0, none⟩ = some (.int .i64 i) := (cell_alloc k81 _)
  have k98 : (W7.alloc (Obj.cells #[.int .i64 h1, .int .i64 h2, .int .i64 h3, .int .i64 h4] 58)).cell? ⟨w.heap.size + 1 + 1, 1, none⟩ = some (.int .i64 j) := (cell_alloc k82 _)
  have k99 : (W7.alloc (Obj.cells #[.int .i64 h1, .int .i64 h2, .int .i64 h3, .int .i64 h4] 58)).cell? ⟨w.heap.size + 1 + 1 + 1, 0, none⟩ = some (.int .i64 k) := (cell_alloc k83 _)
  have k100 : (W7.alloc (Obj.cells #[.int .i64 h1, .int .i64 h2, .int .i64 h3, .int .i64 h4] 58)).cell? ⟨w.heap.size + 1 + 1 + 1, 1, none⟩ = some (.int .i64 l) := (cell_alloc k84 _)
  have k101 : (W7.alloc (Obj.cells #[.int .i64 h1, .int .i64 h2, .int .i64 h3, .int .i64 h4] 58)).cell? ⟨W6.heap.size, 0, none⟩ = some (.int .i64 m1) := (cell_alloc k85 _)
  have k102 : (W7.alloc (Obj.cells #[.int .i64 h1, .int .i64 h2, .int .i64 h3, .int .i64 h4] 58)).cell? ⟨W6.heap.size, 1, none⟩ = some (.int .i64 m2) := (cell_alloc k86 _)
  have k103 : (W7.alloc (Obj.cells #[.int .i64 h1, .int .i64 h2, .int .i64 h3, .int .i64 h4] 58)).cell? ⟨W6.heap.size, 2, none⟩ = some (.int .i64 m3) := (cell_alloc k87 _)
  have k104 : (W7.alloc (Obj.cells #[.int .i64 h1, .int .i64 h2, .int .i64 h3, .int .i64 h4] 58)).cell? ⟨W6.heap.size, 3, none⟩ = some (.int .i64 m4) := (cell_alloc k88 _)
  have k105 : (W7.alloc (Obj.cells #[.int .i64 h1, .int .i64 h2, .int .i64 h3, .int .i64 h4] 58)).cell? ⟨W7.heap.size, 0, none⟩ = some (.int .i64 h1) := by simp [go_sem]
  have k106 : (W7.alloc (Obj.cells #[.int .i64 h1, .int .i64 h2, .int .i64 h3, .int .i64 h4] 58)).cell? ⟨W7.heap.size, 1, none⟩ = some (.int .i64 h2) := by simp [go_sem]
  have k107 : (W7.alloc (Obj.cells #[.int .i64 h1, .int .i64 h2, .int .i64 h3, .int .i64 h4] 58)).cell? ⟨W7.heap.size, 2, none⟩ = some (.int .i64 h3) := by simp [go_sem]
  have k108 : (W7.alloc (Obj.cells #[.int .i64 h1, .int .i64 h2, .int .i64 h3, .int .i64 h4] 58)).cell? ⟨W7.heap.size, 3, none⟩ = some (.int .i64 h4) := by simp [go_sem]
  have lk89 : w.heap.size < (W7.alloc (Obj.cells #[.int .i64 h1, .int .i64 h2, .int .i64 h3, .int .i64 h4] 58)).heap.size := block_lt_of_cell k89
  have lk93 : w.heap.size + 1 < (W7.alloc (Obj.cells #[.int .i64 h1, .int .i64 h2, .int .i64 h3, .int .i64 h4] 58)).heap.size := block_lt_of_cell k93
  have lk97 : w.heap.size + 1 + 1 < (W7.alloc (Obj.cells #[.int .i64 h1, .int .i64 h2, .int .i64 h3, .int .i64 h4] 58)).heap.size := block_lt_of_cell k97
  have lk99 : w.heap.size + 1 + 1 + 1 < (W7.alloc (Obj.cells #[.int .i64 h1, .int .i64 h2, .int .i64 h3, .int .i64 h4] 58)).heap.size := block_lt_of_cell k99
  have lk101 : W6.heap.size < (W7.alloc (Obj.cells #[.int .i64 h1, .int .i64 h2, .int .i64 h3, .int .i64 h4] 58)).heap.size := block_lt_of_cell k101
  have lk105 : W7.heap.size < (W7.alloc (Obj.cells #[.int .i64 h1, .int .i64 h2, .int .i64 h3, .int .i64 h4] 58)).heap.size := block_lt_of_cell k105
  have hv8 : Below w.heap.size w (W7.alloc (Obj.cells #[.int .i64 h1, .int .i64 h2, .int .i64 h3, .int .i64 h4] 58)) := (below_alloc hv7 _)
  clear hv7 k73 k74 k75 k76 k77 k78 k79 k80 k81 k82 k83 k84 k85 k86 k87 k88 lk73 lk77 lk81 lk83 lk85
  generalize (W7.alloc (Obj.cells #[.int .i64 h1, .int .i64 h2, .int .i64 h3, .int .i64 h4] 58)) = X8 at *
  have hTX : Hid (Tab X8.drew.heap.size X8.drew) := Lib.hid (Lib.tabBelow_of_tabIs (hT.out.on hv8.drew).here)
  go_cut [14, 94] from 55 to 94 (fun _ s94 wx => s94 = .bool false ∧ wx.cell? ⟨w.heap.size, 0, none⟩ = some (.int .i64 a) ∧ wx.cell? ⟨w.heap.size, 1, none⟩ = some (.int .i64 b) ∧ wx.cell? ⟨w.heap.size, 2, none⟩ = some (.int .i64 c) ∧ wx.cell? ⟨w.heap.size, 3, none⟩ = some (.int .i64 d) ∧ wx.cell? ⟨w.heap.size + 1, 0, none⟩ = some (.int .i64 e) ∧ wx.cell? ⟨w.heap.size + 1, 1, none⟩ = some (.int .i64 f) ∧ wx.cell? ⟨w.heap.size + 1, 2, none⟩ = some (.int .i64 g) ∧ wx.cell? ⟨w.heap.size + 1, 3, none⟩ = some (.int .i64 h) ∧ wx.cell? ⟨w.heap.size + 1 + 1, 0, none⟩ = some (.int .i64 i) ∧ wx.cell? ⟨w.heap.size + 1 + 1, 1, none⟩ = some (.int .i64 j) ∧ wx.cell? ⟨w.heap.size + 1 + 1 + 1, 0, none⟩ = some (.int .i64 k) ∧ wx.cell? ⟨w.heap.size + 1 + 1 + 1, 1, none⟩ = some (.int .i64 l) ∧ wx.cell? ⟨W6.heap.size, 0, none⟩ = some (.int .i64 m1) ∧ wx.cell? ⟨W6.heap.size, 1, none⟩ = some (.int .i64 m2) ∧ wx.cell? ⟨W6.heap.size, 2, none⟩ = some (.int .i64 m3) ∧ wx.cell? ⟨W6.heap.size, 3, none⟩ = some (.int .i64 m4) ∧ wx.cell? ⟨W7.heap.size, 0, none⟩ = some (.int .i64 h1) ∧ wx.cell? ⟨W7.heap.size, 1, none⟩ = some (.int .i64 h2) ∧ wx.cell? ⟨W7.heap.size, 2, none⟩ = some (.int .i64 h3) ∧ wx.cell? ⟨W7.heap.size, 3, none⟩ = some (.int .i64 h4) ∧ Below w.heap.size w wx)
  case first =>
    rcases c7.out with ⟨e1, rfl, rfl, rfl⟩ | ⟨e1, rfl, rfl, rfl⟩ | ⟨e1, rfl, rfl, rfl⟩ | ⟨e1, rfl, rfl, rfl⟩ | ⟨e1, rfl, rfl⟩ | ⟨e1, rfl, rfl⟩ | ⟨e1, rfl, rfl⟩
    · skip
      have HC0 := Lib.hid (HMA.out e1)
      go_wp2_with fail
      refine (HC0.out _).mono ?_
      rintro e W9 ⟨rfl, hb9⟩
      have k109 : W9.cell? ⟨w.heap.size, 0, none⟩ = some (.int .i64 a) := kept1 k89 hb9
      have k110 : W9.cell? ⟨w.heap.size, 1, none⟩ = some (.int .i64 b) := kept1 k90 hb9
      have k111 : W9.cell? ⟨w.heap.size, 2, none⟩ = some (.int .i64 c) := kept1 k91 hb9
      have k112 : W9.cell? ⟨w.heap.size, 3, none⟩ = some (.int .i64 d) := kept1 k92 hb9
      have k113 : W9.cell? ⟨w.heap.size + 1, 0, none⟩ = some (.int .i64 e) := kept1 k93 hb9
      have k114 : W9.cell? ⟨w.heap.size + 1, 1, none⟩ = some (.int .i64 f) := kept1 k94 hb9
      have k115 : W9.cell? ⟨w.heap.size + 1, 2, none⟩ = some (.int .i64 g) := kept1 k95 hb9
      have k116 : W9.cell? ⟨w.heap.size + 1, 3, none⟩ = some (.int .i64 h) := kept1 k96 hb9
      have k117 : W9.cell? ⟨w.heap.size + 1 + 1, 0, none⟩ = some (.int .i64 i) := kept1 k97 hb9
      have k118 : W9.cell? ⟨w.heap.size + 1 + 1, 1, none⟩ = some (.int .i64 j) := kept1 k98 hb9
      have k119 : W9.cell? ⟨w.heap.size + 1 + 1 + 1, 0, none⟩ = some (.int .i64 k) := kept1 k99 hb9
      have k120 : W9.cell? ⟨w.heap.size + 1 + 1 + 1, 1, none⟩ = some (.int .i64 l) := kept1 k100 hb9
      have k121 : W9.cell? ⟨W6.heap.size, 0, none⟩ = some (.int .i64 m1) := kept1 k101 hb9
      have k122 : W9.cell? ⟨W6.heap.size, 1, none⟩ = some (.int .i64 m2) := kept1 k102 hb9
      have k123 : W9.cell? ⟨W6.heap.size, 2, none⟩ = some (.int .i64 m3) := kept1 k103 hb9
      have k124 : W9.cell? ⟨W6.heap.size, 3, none⟩ = some (.int .i64 m4) := kept1 k104 hb9
      have k125 : W9.cell? ⟨W7.heap.size, 0, none⟩ = some (.int .i64 h1) := kept1 k105 hb9
      have k126 : W9.cell? ⟨W7.heap.size, 1, none⟩ = some (.int .i64 h2) := kept1 k106 hb9
      have k127 : W9.cell? ⟨W7.heap.size, 2, none⟩ = some (.int .i64 h3) := kept1 k107 hb9
      have k128 : W9.cell? ⟨W7.heap.size, 3, none⟩ = some (.int .i64 h4) := kept1 k108 hb9
      have lk109 : w.heap.size < W9.heap.size := block_lt_of_cell k109
      have lk113 : w.heap.size + 1 < W9.heap.size := block_lt_of_cell k113
      have lk117 : w.heap.size + 1 + 1 < W9.heap.size := block_lt_of_cell k117
      have lk119 : w.heap.size + 1 + 1 + 1 < W9.heap.size := block_lt_of_cell k119
      have lk121 : W6.heap.size < W9.heap.size := block_lt_of_cell k121
      have lk125 : W7.heap.size < W9.heap.size := block_lt_of_cell k125
      have hv9 : Below w.heap.size w W9 := bstep0 hv8 hb9
      clear hb9 hv8 k89 k90 k91 k92 k93 k94 k95 k96 k97 k98 k99 k100 k101 k102 k103 k104 k105 k106 k107 k108 lk89 lk93 lk97 lk99 lk101 lk105
      have HC1 := Lib.hid (HHA.out rfl)
      go_wp2_with fail
      refine (HC1.out _).mono ?_
      rintro e W10 ⟨rfl, hb10⟩
      have k129 : W10.cell? ⟨w.heap.size, 0, none⟩ = some (.int .i64 a) := kept1 k109 hb10
      have k130 : W10.cell? ⟨w.heap.size, 1, none⟩ = some (.int .i64 b) := kept1 k110 hb10
      have k131 : W10.cell? ⟨w.heap.size, 2, none⟩ = some (.int .i64 c) := kept1 k111 hb10
      have k132 : W10.cell? ⟨w.heap.size, 3, none⟩ = some (.int .i64 d) := kept1 k112 hb10
      have k133 : W10.cell? ⟨w.heap.size + 1, 0, none⟩ = some (.int .i64 e) := kept1 k113 hb10
      have k134 : W10.cell? ⟨w.heap.size + 1, 1, none⟩ = some (.int .i64 f) := kept1 k114 hb10
      have k135 : W10.cell? ⟨w.heap.size + 1, 2, none⟩ = some (.int .i64 g) := kept1 k115 hb10
      have k136 : W10.cell? ⟨w.heap.size + 1, 3, none⟩ = some (.int .i64 h) := kept1 k116 hb10
      have k137 : W10.cell? ⟨w.heap.size + 1 + 1, 0, none⟩ = some (.int .i64 i) := kept1 k117 hb10
      have k138 : W10.cell? ⟨w.heap.size + 1 + 1, 1, none⟩ = some (.int .i64 j) := kept1 k118 hb10
      have k139 : W10.cell? ⟨w.heap.size + 1 + 1 + 1, 0, none⟩ = some (.int .i64 k) := kept1 k119 hb10
      have k140 : W10.cell? ⟨w.heap.size + 1 + 1 + 1, 1, none⟩ = some (.int .i64 l) := kept1 k120 hb10
      have k141 : W10.cell? ⟨W6.heap.size, 0, none⟩ = some (.int .i64 m1) := kept1 k121 hb10
      have k142 : W10.cell? ⟨W6.heap.size, 1, none⟩ = some (.int .i64 m2) := kept1 k122 hb10
      have k143 : W10.cell? ⟨W6.heap.size, 2, none⟩ = some (.int .i64 m3) := kept1 k123 hb10
      have k144 : W10.cell? ⟨W6.heap.size, 3, none⟩ = some (.int .i64 m4) := kept1 k124 hb10
      have k145 : W10.cell? ⟨W7.heap.size, 0, none⟩ = some (.int .i64 h1) := kept1 k125 hb10
      have k146 : W10.cell? ⟨W7.heap.size, 1, none⟩ = some (.int .i64 h2) := kept1 k126 hb10
      have k147 : W10.cell? ⟨W7.heap.size, 2, none⟩ = some (.int .i64 h3) := kept1 k127 hb10
      have k148 : W10.cell? ⟨W7.heap.size, 3, none⟩ = some (.int .i64 h4) := kept1 k128 hb10
      have lk129 : w.heap.size < W10.heap.size := block_lt_of_cell k129
      have lk133 : w.heap.size + 1 < W10.heap.size := block_lt_of_cell k133
      have lk137 : w.heap.size + 1 + 1 < W10.heap.size := block_lt_of_cell k137
      have lk139 : w.heap.size + 1 + 1 + 1 < W10.heap.size := block_lt_of_cell k139
      have lk141 : W6.heap.size < W10.heap.size := block_lt_of_cell k141
      have lk145 : W7.heap.size < W10.heap.size := block_lt_of_cell k145
      have hv10 : Below w.heap.size w W10 := bstep0 hv9 hb10
      clear hb10 hv9 k109 k110 k111 k112 k113 k114 k115 k116 k117 k118 k119 k120 k121 k122 k123 k124 k125 k126 k127 k128 lk109 lk113 lk117 lk119 lk121 lk125
      go_wp2_with fail
      go_meet
      exact ⟨by first | rfl | (simp; done) | (simp; omega), k129, k130, k131, k132, k133, k134, k135, k136, k137, k138, k139, k140, k141, k142, k143, k144, k145, k146, k147, k148, hv10⟩
    · skip
      have HC0 := Lib.hid (HMA.out e1)
      go_wp2_with fail
      refine (HC0.out _).mono ?_
      rintro e W11 ⟨rfl, hb11⟩
      have k149 : W11.cell? ⟨w.heap.size, 0, none⟩ = some (.int .i64 a) := kept1 k89 hb11
      have k150 : W11.cell? ⟨w.heap.size, 1, none⟩ = some (.int .i64 b) := kept1 k90 hb11
      have k151 : W11.cell? ⟨w.heap.size, 2, none⟩ = some (.int .i64 c) := kept1 k91 hb11
      have k152 : W11.cell? ⟨w.heap.size, 3, none⟩ = some (.int .i64 d) := kept1 k92 hb11
      have k153 : W11.cell? ⟨w.heap.size + 1, 0, none⟩ = some (.int .i64 e) := kept1 k93 hb11
      have k154 : W11.cell? ⟨w.heap.size + 1, 1, none⟩ = some (.int .i64 f) := kept1 k94 hb11
      have k155 : W11.cell? ⟨w.heap.size + 1, 2, none⟩ = some (.int .i64 g) := kept1 k95 hb11
      have k156 : W11.cell? ⟨w.heap.size + 1, 3, none⟩ = some (.int .i64 h) := kept1 k96 hb11
      have k157 : W11.cell? ⟨w.heap.size + 1 + 1, 0, none⟩ = some (.int .i64 i) := kept1 k97 hb11
      have k158 : W11.cell? ⟨w.heap.size + 1 + 1, 1, none⟩ = some (.int .i64 j) := kept1 k98 hb11
      have k159 : W11.cell? ⟨w.heap.size + 1 + 1 + 1, 0, none⟩ = some (.int .i64 k) := kept1 k99 hb11
      have k160 : W11.cell? ⟨w.heap.size + 1 + 1 + 1, 1, none⟩ = some (.int .i64 l) := kept1 k100 hb11
      have k161 : W11.cell? ⟨W6.heap.size, 0, none⟩ = some (.int .i64 m1) := kept1 k101 hb11
      have k162 : W11.cell? ⟨W6.heap.size, 1, none⟩ = some (.int .i64 m2) := kept1 k102 hb11
      have k163 : W11.cell? ⟨W6.heap.size, 2, none⟩ = some (.int .i64 m3) := kept1 k103 hb11
      have k164 : W11.cell? ⟨W6.heap.size, 3, none⟩ = some (.int .i64 m4) := kept1 k104 hb11
      have k165 : W11.cell? ⟨W7.heap.size, 0, none⟩ = some (.int .i64 h1) := kept1 k105 hb11
      have k166 : W11.cell? ⟨W7.heap.size, 1, none⟩ = some (.int .i64 h2) := kept1 k106 hb11
      have k167 : W11.cell? ⟨W7.heap.size, 2, none⟩ = some (.int .i64 h3) := kept1 k107 hb11
      have k168 : W11.cell? ⟨W7.heap.size, 3, none⟩ = some (.int .i64 h4) := kept1 k108 hb11
      have lk149 : w.heap.size < W11.heap.size := block_lt_of_cell k149
      have lk153 : w.heap.size + 1 < W11.heap.size := block_lt_of_cell k153
      have lk157 : w.heap.size + 1 + 1 < W11.heap.size := block_lt_of_cell k157
      have lk159 : w.heap.size + 1 + 1 + 1 < W11.heap.size := block_lt_of_cell k159
      have lk161 : W6.heap.size < W11.heap.size := block_lt_of_cell k161
      have lk165 : W7.heap.size < W11.heap.size := block_lt_of_cell k165
      have hv11 : Below w.heap.size w W11 := bstep0 hv8 hb11
      clear hb11 hv8 k89 k90 k91 k92 k93 k94 k95 k96 k97 k98 k99 k100 k101 k102 k103 k104 k105 k106 k107 k108 lk89 lk93 lk97 lk99 lk101 lk105
      have HC1 := Lib.hid (HHA.out rfl)
      go_wp2_with fail
      refine (HC1.out _).mono ?_
      rintro e W12 ⟨rfl, hb12⟩
      have k169 : W12.cell? ⟨w.heap.size, 0, none⟩ = some (.int .i64 a) := kept1 k149 hb12
      have k170 : W12.cell? ⟨w.heap.size, 1, none⟩ = some (.int .i64 b) := kept1 k150 hb12
      have k171 : W12.cell? ⟨w.heap.size, 2, none⟩ = some (.int .i64 c) := kept1 k151 hb12
      have k172 : W12.cell? ⟨w.heap.size, 3, none⟩ = some (.int .i64 d) := kept1 k152 hb12
      have k173 : W12.cell? ⟨w.heap.size + 1, 0, none⟩ = some (.int .i64 e) := kept1 k153 hb12
      have k174 : W12.cell? ⟨w.heap.size + 1, 1, none⟩ = some (.int .i64 f) := kept1 k154 hb12
      have k175 : W12.cell? ⟨w.heap.size + 1, 2, none⟩ = some (.int .i64 g) := kept1 k155 hb12
      have k176 : W12.cell? ⟨w.heap.size + 1, 3, none⟩ = some (.int .i64 h) := kept1 k156 hb12
      have k177 : W12.cell? ⟨w.heap.size + 1 + 1, 0, none⟩ = some (.int .i64 i) := kept1 k157 hb12
      have k178 : W12.cell? ⟨w.heap.size + 1 + 1, 1, none⟩ = some (.int .i64 j) := kept1 k158 hb12
      have k179 : W12.cell? ⟨w.heap.size + 1 + 1 + 1, 0, none⟩ = some (.int .i64 k) := kept1 k159 hb12
      have k180 : W12.cell? ⟨w.heap.size + 1 + 1 + 1, 1, none⟩ = some (.int .i64 l) := kept1 k160 hb12
      have k181 : W12.cell? ⟨W6.heap.size, 0, none⟩ = some (.int .i64 m1) := kept1 k161 hb12
      have k182 : W12.cell? ⟨W6.heap.size, 1, none⟩ = some (.int .i64 m2) := kept1 k162 hb12
      have k183 : W12.cell? ⟨W6.heap.size, 2, none⟩ = some (.int .i64 m3) := kept1 k163 hb12
      have k184 : W12.cell? ⟨W6.heap.size, 3, none⟩ = some (.int .i64 m4) := kept1 k164 hb12
      have k185 : W12.cell? ⟨W7.heap.size, 0, none⟩ = some (.int .i64 h1) := kept1 k165 hb12
      have k186 : W12.cell? ⟨W7.heap.size, 1, none⟩ = some (.int .i64 h2) := kept1 k166 hb12
      have k187 : W12.cell? ⟨W7.heap.size, 2, none⟩ = some (.int .i64 h3) := kept1 k167 hb12
      have k188 : W12.cell? ⟨W7.heap.size, 3, none⟩ = some (.int .i64 h4) := kept1 k168 hb12
      have lk169 : w.heap.size < W12.heap.size := block_lt_of_cell k169
      have lk173 : w.heap.size + 1 < W12.heap.size := block_lt_of_cell k173
      have lk177 : w.heap.size + 1 + 1 < W12.heap.size := block_lt_of_cell k177
      have lk179 : w.heap.size + 1 + 1 + 1 < W12.heap.size := block_lt_of_cell k179
      have lk181 : W6.heap.size < W12.heap.size := block_lt_of_cell k181
      have lk185 : W7.heap.size < W12.heap.size := block_lt_of_cell k185
      have hv12 : Below w.heap.size w W12 := bstep0 hv11 hb12
      clear hb12 hv11 k149 k150 k151 k152 k153 k154 k155 k156 k157 k158 k159 k160 k161 k162 k163 k164 k165 k166 k167 k168 lk149 lk153 lk157 lk159 lk161 lk165
      go_wp2_with fail
      go_meet
      exact ⟨by first | rfl | (simp; done) | (simp; omega), k169, k170, k171, k172, k173, k174, k175, k176, k177, k178, k179, k180, k181, k182, k183, k184, k185, k186, k187, k188, hv12⟩
    · skip
      have HC0 := Lib.hid (HMA.out e1)
      go_wp2_with fail
      refine (HC0.out _).mono ?_
      rintro e W13 ⟨rfl, hb13⟩
      have k189 : W13.cell? ⟨w.heap.size, 0, none⟩ = some (.int .i64 a) := kept1 k89 hb13
      have k190 : W13.cell? ⟨w.heap.size, 1, none⟩ = some (.int .i64 b) := kept1 k90 hb13
      have k191 : W13.cell? ⟨w.heap.size, 2, none⟩ = some (.int .i64 c) := kept1 k91 hb13
      have k192 : W13.cell? ⟨w.heap.size, 3, none⟩ = some (.int .i64 d) := kept1 k92 hb13
      have k193 : W13.cell? ⟨w.heap.size + 1, 0, none⟩ = some (.int .i64 e) := kept1 k93 hb13
      have k194 : W13.cell? ⟨w.heap.size + 1, 1, none⟩ = some (.int .i64 f) := kept1 k94 hb13
      have k195 : W13.cell? ⟨w.heap.size + 1, 2, none⟩ = some (.int .i64 g) := kept1 k95 hb13
      have k196 : W13.cell? ⟨w.heap.size + 1, 3, none⟩ = some (.int .i64 h) := kept1 k96 hb13
      have k197 : W13.cell? ⟨w.heap.size + 1 + 1, 0, none⟩ = some (.int .i64 i) := kept1 k97 hb13
      have k198 : W13.cell? ⟨w.heap.size + 1 + 1, 1, none⟩ = some (.int .i64 j) := kept1 k98 hb13
      have k199 : W13.cell? ⟨w.heap.size + 1 + 1 + 1, 0, none⟩ = some (.int .i64 k) := kept1 k99 hb13
      have k200 : W13.cell? ⟨w.heap.size + 1 + 1 + 1, 1, none⟩ = some (.int .i64 l) := kept1 k100 hb13
      have k201 : W13.cell? ⟨W6.heap.size, 0, none⟩ = some (.int .i64 m1) := kept1 k101 hb13
      have k202 : W13.cell? ⟨W6.heap.size, 1, none⟩ = some (.int .i64 m2) := kept1 k102 hb13
      have k203 : W13.cell? ⟨W6.heap.size, 2, none⟩ = some (.int .i64 m3) := kept1 k103 hb13
      have k204 : W13.cell? ⟨W6.heap.size, 3, none⟩ = some (.int .i64 m4) := kept1 k104 hb13
      have k205 : W13.cell? ⟨W7.heap.size, 0, none⟩ = some (.int .i64 h1) := kept1 k105 hb13
      have k206 : W13.cell? ⟨W7.heap.size, 1, none⟩ = some (.int .i64 h2) := kept1 k106 hb13
      have k207 : W13.cell? ⟨W7.heap.size, 2, none⟩ = some (.int .i64 h3) := kept1 k107 hb13
      have k208 : W13.cell? ⟨W7.heap.size, 3, none⟩ = some (.int .i64 h4) := kept1 k108 hb13
      have lk189 : w.heap.size < W13.heap.size := block_lt_of_cell k189
      have lk193 : w.heap.size + 1 < W13.heap.size := block_lt_of_cell k193
      have lk197 : w.heap.size + 1 + 1 < W13.heap.size := block_lt_of_cell k197
      have lk199 : w.heap.size + 1 + 1 + 1 < W13.heap.size := block_lt_of_cell k199
      have lk201 : W6.heap.size < W13.heap.size := block_lt_of_cell k201
      have lk205 : W7.heap.size < W13.heap.size := block_lt_of_cell k205
      have hv13 : Below w.heap.size w W13 := bstep0 hv8 hb13
      clear hb13 hv8 k89 k90 k91 k92 k93 k94 k95 k96 k97 k98 k99 k100 k101 k102 k103 k104 k105 k106 k107 k108 lk89 lk93 lk97 lk99 lk101 lk105
      have HC1 := Lib.hid (HHA.out rfl)
      go_wp2_with fail
      refine (HC1.out _).mono ?_
      rintro e W14 ⟨rfl, hb14⟩
      have k209 : W14.cell? ⟨w.heap.size, 0, none⟩ = some (.int .i64 a) := kept1 k189 hb14
      have k210 : W14.cell? ⟨w.heap.size, 1, none⟩ = some (.int .i64 b) := kept1 k190 hb14
      have k211 : W14.cell? ⟨w.heap.size, 2, none⟩ = some (.int .i64 c) := kept1 k191 hb14
      have k212 : W14.cell? ⟨w.heap.size, 3, none⟩ = some (.int .i64 d) := kept1 k192 hb14
      have k213 : W14.cell? ⟨w.heap.size + 1, 0, none⟩ = some (.int .i64 e) := kept1 k193 hb14
      have k214 : W14.cell? ⟨w.heap.size + 1, 1, none⟩ = some (.int .i64 f) := kept1 k194 hb14
      have k215 : W14.cell? ⟨w.heap.size + 1, 2, none⟩ = some (.int .i64 g) := kept1 k195 hb14
      have k216 : W14.cell? ⟨w.heap.size + 1, 3, none⟩ = some (.int .i64 h) := kept1 k196 hb14
      have k217 : W14.cell? ⟨w.heap.size + 1 + 1, 0, none⟩ = some (.int .i64 i) := kept1 k197 hb14
      have k218 : W14.cell? ⟨w.heap.size + 1 + 1, 1, none⟩ = some (.int .i64 j) := kept1 k198 hb14
      have k219 : W14.cell? ⟨w.heap.size + 1 + 1 + 1, 0, none⟩ = some (.int .i64 k) := kept1 k199 hb14
      have k220 : W14.cell? ⟨w.heap.size + 1 + 1 + 1, 1, none⟩ = some (.int .i64 l) := kept1 k200 hb14
      have k221 : W14.cell? ⟨W6.heap.size, 0, none⟩ = some (.int .i64 m1) := kept1 k201 hb14
      have k222 : W14.cell? ⟨W6.heap.size, 1, none⟩ = some (.int .i64 m2) := kept1 k202 hb14
      have k223 : W14.cell? ⟨W6.heap.size, 2, none⟩ = some (.int .i64 m3) := kept1 k203 hb14
      have k224 : W14.cell? ⟨W6.heap.size, 3, none⟩ = some (.int .i64 m4) := kept1 k204 hb14
      have k225 : W14.cell? ⟨W7.heap.size, 0, none⟩ = some (.int .i64 h1) := kept1 k205 hb14
      have k226 : W14.cell? ⟨W7.heap.size, 1, none⟩ = some (.int .i64 h2) := kept1 k206 hb14
      have k227 : W14.cell? ⟨W7.heap.size, 2, none⟩ = some (.int .i64 h3) := kept1 k207 hb14
      have k228 : W14.cell? ⟨W7.heap.size, 3, none⟩ = some (.int .i64 h4) := kept1 k208 hb14
      have lk209 : w.heap.size < W14.heap.size := block_lt_of_cell k209
      have lk213 : w.heap.size + 1 < W14.heap.size := block_lt_of_cell k213
      have lk217 : w.heap.size + 1 + 1 < W14.heap.size := block_lt_of_cell k217
      have lk219 : w.heap.size + 1 + 1 + 1 < W14.heap.size := block_lt_of_cell k219
      have lk221 : W6.heap.size < W14.heap.size := block_lt_of_cell k221
      have lk225 : W7.heap.size < W14.heap.size := block_lt_of_cell k225
      have hv14 : Below w.heap.size w W14 := bstep0 hv13 hb14
      clear hb14 hv13 k189 k190 k191 k192 k193 k194 k195 k196 k197 k198 k199 k200 k201 k202 k203 k204 k205 k206 k207 k208 lk189 lk193 lk197 lk199 lk201 lk205
      go_wp2_with fail
      go_meet
      exact ⟨by first | rfl | (simp; done) | (simp; omega), k209, k210, k211, k212, k213, k214, k215, k216, k217, k218, k219, k220, k221, k222, k223, k224, k225, k226, k227, k228, hv14⟩
    · skip
      have HC0 := Lib.hid (HMA.out e1)
      go_wp2_with fail
      refine (HC0.out _).mono ?_
      rintro e W15 ⟨rfl, hb15⟩
      have k229 : W15.cell? ⟨w.heap.size, 0, none⟩ = some (.int .i64 a) := kept1 k89 hb15
      have k230 : W15.cell? ⟨w.heap.size, 1, none⟩ = some (.int .i64 b) := kept1 k90 hb15
      have k231 : W15.cell? ⟨w.heap.size, 2, none⟩ = some (.int .i64 c) := kept1 k91 hb15
      have k232 : W15.cell? ⟨w.heap.size, 3, none⟩ = some (.int .i64 d) := kept1 k92 hb15
      have k233 : W15.cell? ⟨w.heap.size + 1, 0, none⟩ = some (.int .i64 e) := kept1 k93 hb15
      have k234 : W15.cell? ⟨w.heap.size + 1, 1, none⟩ = some (.int .i64 f) := kept1 k94 hb15
      have k235 : W15.cell? ⟨w.heap.size + 1, 2, none⟩ = some (.int .i64 g) := kept1 k95 hb15
      have k236 : W15.cell? ⟨w.heap.size + 1, 3, none⟩ = some (.int .i64 h) := kept1 k96 hb15
      have k237 : W15.cell? ⟨w.heap.size + 1 + 1, 0, none⟩ = some (.int .i64 i) := kept1 k97 hb15
      have k238 : W15.cell? ⟨w.heap.size + 1 + 1, 1, none⟩ = some (.int .i64 j) := kept1 k98 hb15
      have k239 : W15.cell? ⟨w.heap.size + 1 + 1 + 1, 0, none⟩ = some (.int .i64 k) := kept1 k99 hb15
      have k240 : W15.cell? ⟨w.heap.size + 1 + 1 + 1, 1, none⟩ = some (.int .i64 l) := kept1 k100 hb15
      have k241 : W15.cell? ⟨W6.heap.size, 0, none⟩ = some (.int .i64 m1) := kept1 k101 hb15
      have k242 : W15.cell? ⟨W6.heap.size, 1, none⟩ = some (.int .i64 m2) := kept1 k102 hb15
      have k243 : W15.cell? ⟨W6.heap.size, 2, none⟩ = some (.int .i64 m3) := kept1 k103 hb15
      have k244 : W15.cell? ⟨W6.heap.size, 3, none⟩ = some (.int .i64 m4) := kept1 k104 hb15
      have k245 : W15.cell? ⟨W7.heap.size, 0, none⟩ = some (.int .i64 h1) := kept1 k105 hb15
      have k246 : W15.cell? ⟨W7.heap.size, 1, none⟩ = some (.int .i64 h2) := kept1 k106 hb15
      have k247 : W15.cell? ⟨W7.heap.size, 2, none⟩ = some (.int .i64 h3) := kept1 k107 hb15
      have k248 : W15.cell? ⟨W7.heap.size, 3, none⟩ = some (.int .i64 h4) := kept1 k108 hb15
      have lk229 : w.heap.size < W15.heap.size := block_lt_of_cell k229
      have lk233 : w.heap.size + 1 < W15.heap.size := block_lt_of_cell k233
      have lk237 : w.heap.size + 1 + 1 < W15.heap.size := block_lt_of_cell k237
      have lk239 : w.heap.size + 1 + 1 + 1 < W15.heap.size := block_lt_of_cell k239
      have lk241 : W6.heap.size < W15.heap.size := block_lt_of_cell k241
      have lk245 : W7.heap.size < W15.heap.size := block_lt_of_cell k245
      have hv15 : Below w.heap.size w W15 := bstep0 hv8 hb15
      clear hb15 hv8 k89 k90 k91 k92 k93 k94 k95 k96 k97 k98 k99 k100 k101 k102 k103 k104 k105 k106 k107 k108 lk89 lk93 lk97 lk99 lk101 lk105
      go_wp2_with fail
      go_meet
      exact ⟨by first | rfl | (simp; done) | (simp; omega), k229, k230, k231, k232, k233, k234, k235, k236, k237, k238, k239, k240, k241, k242, k243, k244, k245, k246, k247, k248, hv15⟩
    · skip
      have HC0 := Lib.hid (HHA.out rfl)
      go_wp2_with fail
      refine (HC0.out _).mono ?_
      rintro e W16 ⟨rfl, hb16⟩
      have k249 : W16.cell? ⟨w.heap.size, 0, none⟩ = some (.int .i64 a) := kept1 k89 hb16
      have k250 : W16.cell? ⟨w.heap.size, 1, none⟩ = some (.int .i64 b) := kept1 k90 hb16
      have k251 : W16.cell? ⟨w.heap.size, 2, none⟩ = some (.int .i64 c) := kept1 k91 hb16
      have k252 : W16.cell? ⟨w.heap.size, 3, none⟩ = some (.int .i64 d) := kept1 k92 hb16
      have k253 : W16.cell? ⟨w.heap.size + 1, 0, none⟩ = some (.int .i64 e) := kept1 k93 hb16
      have k254 : W16.cell? ⟨w.heap.size + 1, 1, none⟩ = some (.int .i64 f) := kept1 k94 hb16
      have k255 : W16.cell? ⟨w.heap.size + 1, 2, none⟩ = some (.int .i64 g) := kept1 k95 hb16
      have k256 : W16.cell? ⟨w.heap.size + 1, 3, none⟩ = some (.int .i64 h) := kept1 k96 hb16
      have k257 : W16.cell? ⟨w.heap.size + 1 + 1, 0, none⟩ = some (.int .i64 i) := kept1 k97 hb16
      have k258 : W16.cell? ⟨w.heap.size + 1 + 1, 1, none⟩ = some (.int .i64 j) := kept1 k98 hb16
      have k259 : W16.cell? ⟨w.heap.size + 1 + 1 + 1, 0, none⟩ = some (.int .i64 k) := kept1 k99 hb16
      have k260 : W16.cell? ⟨w.heap.size + 1 + 1 + 1, 1, none⟩ = some (.int .i64 l) := kept1 k100 hb16
      have k261 : W16.cell? ⟨W6.heap.size, 0, none⟩ = some (.int .i64 m1) := kept1 k101 hb16
      have k262 : W16.cell? ⟨W6.heap.size, 1, none⟩ = some (.int .i64 m2) := kept1 k102 hb16
      have k263 : W16.cell? ⟨W6.heap.size, 2, none⟩ = some (.int .i64 m3) := kept1 k103 hb16
      have k264 : W16.cell? ⟨W6.heap.size, 3, none⟩ = some (.int .i64 m4) := kept1 k104 hb16
      have k265 : W16.cell? ⟨W7.heap.size, 0, none⟩ = some (.int .i64 h1) := kept1 k105 hb16
      have k266 : W16.cell? ⟨W7.heap.size, 1, none⟩ = some (.int .i64 h2) := kept1 k106 hb16
      have k267 : W16.cell? ⟨W7.heap.size, 2, none⟩ = some (.int .i64 h3) := kept1 k107 hb16
      have k268 : W16.cell? ⟨W7.heap.size, 3, none⟩ = some (.int .i64 h4) := kept1 k108 hb16
      have lk249 : w.heap.size < W16.heap.size := block_lt_of_cell k249
      have lk253 : w.heap.size + 1 < W16.heap.size := block_lt_of_cell k253
      have lk257 : w.heap.size + 1 + 1 < W16.heap.size := block_lt_of_cell k257
      have lk259 : w.heap.size + 1 + 1 + 1 < W16.heap.size := block_lt_of_cell k259
      have lk261 : W6.heap.size < W16.heap.size := block_lt_of_cell k261
      have lk265 : W7.heap.size < W16.heap.size := block_lt_of_cell k265
      have hv16 : Below w.heap.size w W16 := bstep0 hv8 hb16
      clear hb16 hv8 k89 k90 k91 k92 k93 k94 k95 k96 k97 k98 k99 k100 k101 k102 k103 k104 k105 k106 k107 k108 lk89 lk93 lk97 lk99 lk101 lk105
      go_wp2_with fail
      go_meet
      exact ⟨by first | rfl | (simp; done) | (simp; omega), k249, k250, k251, k252, k253, k254, k255, k256, k257, k258, k259, k260, k261, k262, k263, k264, k265, k266, k267, k268, hv16⟩
    · skip
      have HC0 := Lib.hid (HHA.out rfl)
      go_wp2_with fail
      refine (HC0.out _).mono ?_
      rintro e W17 ⟨rfl, hb17⟩
      have k269 : W17.cell? ⟨w.heap.size, 0, none⟩ = some (.int .i64 a) := kept1 k89 hb17
      have k270 : W17.cell? ⟨w.heap.size, 1, none⟩ = some (.int .i64 b) := kept1 k90 hb17
      have k271 : W17.cell? ⟨w.heap.size, 2, none⟩ = some (.int .i64 c) := kept1 k91 hb17
      have k272 : W17.cell? ⟨w.heap.size, 3, none⟩ = some (.int .i64 d) := kept1 k92 hb17
      have k273 : W17.cell? ⟨w.heap.size + 1, 0, none⟩ = some (.int .i64 e) := kept1 k93 hb17
      have k274 : W17.cell? ⟨w.heap.size + 1, 1, none⟩ = some (.int .i64 f) := kept1 k94 hb17
      have k275 : W17.cell? ⟨w.heap.size + 1, 2, none⟩ = some (.int .i64 g) := kept1 k95 hb17
      have k276 : W17.cell? ⟨w.heap.size + 1, 3, none⟩ = some (.int .i64 h) := kept1 k96 hb17
      have k277 : W17.cell? ⟨w.heap.size + 1 + 1, 0, none⟩ = some (.int .i64 i) := kept1 k97 hb17
      have k278 : W17.cell? ⟨w.heap.size + 1 + 1, 1, none⟩ = some (.int .i64 j) := kept1 k98 hb17
      have k279 : W17.cell? ⟨w.heap.size + 1 + 1 + 1, 0, none⟩ = some (.int .i64 k) := kept1 k99 hb17
      have k280 : W17.cell? ⟨w.heap.size + 1 + 1 + 1, 1, none⟩ = some (.int .i64 l) := kept1 k100 hb17
      have k281 : W17.cell? ⟨W6.heap.size, 0, none⟩ = some (.int .i64 m1) := kept1 k101 hb17
      have k282 : W17.cell? ⟨W6.heap.size, 1, none⟩ = some (.int .i64 m2) := kept1 k102 hb17
      have k283 : W17.cell? ⟨W6.heap.size, 2, none⟩ = some (.int .i64 m3) := kept1 k103 hb17
      have k284 : W17.cell? ⟨W6.heap.size, 3, none⟩ = some (.int .i64 m4) := kept1 k104 hb17
      have k285 : W17.cell? ⟨W7.heap.size, 0, none⟩ = some (.int .i64 h1) := kept1 k105 hb17
      have k286 : W17.cell? ⟨W7.heap.size, 1, none⟩ = some (.int .i64 h2) := kept1 k106 hb17
      have k287 : W17.cell? ⟨W7.heap.size, 2, none⟩ = some (.int .i64 h3) := kept1 k107 hb17
      have k288 : W17.cell? ⟨W7.heap.size, 3, none⟩ = some (.int .i64 h4) := kept1 k108 hb17
      have lk269 : w.heap.size < W17.heap.size := block_lt_of_cell k269
      have lk273 : w.heap.size + 1 < W17.heap.size := block_lt_of_cell k273
      have lk277 : w.heap.size + 1 + 1 < W17.heap.size := block_lt_of_cell k277
      have lk279 : w.heap.size + 1 + 1 + 1 < W17.heap.size := block_lt_of_cell k279
      have lk281 : W6.heap.size < W17.heap.size := block_lt_of_cell k281
      have lk285 : W7.heap.size < W17.heap.size := block_lt_of_cell k285
      have hv17 : Below w.heap.size w W17 := bstep0 hv8 hb17
      clear hb17 hv8 k89 k90 k91 k92 k93 k94 k95 k96 k97 k98 k99 k100 k101 k102 k103 k104 k105 k106 k107 k108 lk89 lk93 lk97 lk99 lk101 lk105
      go_wp2_with fail
      go_meet
      exact ⟨by first | rfl | (simp; done) | (simp; omega), k269, k270, k271, k272, k273, k274, k275, k276, k277, k278, k279, k280, k281, k282, k283, k284, k285, k286, k287, k288, hv17⟩
    · skip
      go_wp2_with fail
      go_meet
      exact ⟨by first | rfl | (simp; done) | (simp; omega), k89, k90, k91, k92, k93, k94, k95, k96, k97, k98, k99, k100, k101, k102, k103, k104, k105, k106, k107, k108, hv8⟩
  case rest =>
    generalize wc = V18 at hcut ⊢
    clear wc
    obtain ⟨rfl, k289, k290, k291, k292, k293, k294, k295, k296, k297, k298, k299, k300, k301, k302, k303, k304, k305, k306, k307, k308, hv18⟩ := hcut
    clear hv8 k89 k90 k91 k92 k93 k94 k95 k96 k97 k98 k99 k100 k101 k102 k103 k104 k105 k106 k107 k108 lk89 lk93 lk97 lk99 lk101 lk105
    have lk289 : w.heap.size < V18.heap.size := block_lt_of_cell k289
    have lk293 : w.heap.size + 1 < V18.heap.size := block_lt_of_cell k293
    have lk297 : w.heap.size + 1 + 1 < V18.heap.size := block_lt_of_cell k297
    have lk299 : w.heap.size + 1 + 1 + 1 < V18.heap.size := block_lt_of_cell k299
    have lk301 : W6.heap.size < V18.heap.size := block_lt_of_cell k301
    have lk305 : W7.heap.size < V18.heap.size := block_lt_of_cell k305
    clear k301 k302 k303 k304 lk301
    clear k305 k306 k307 k308 lk305
    go_wp2_with fail
    refine (HS.out _).mono ?_
    rintro e W19 ⟨rfl, hb19⟩
    have k309 : W19.cell? ⟨w.heap.size, 0, none⟩ = some (.int .i64 a) := kept1 k289 hb19
    have k310 : W19.cell? ⟨w.heap.size, 1, none⟩ = some (.int .i64 b) := kept1 k290 hb19
    have k311 : W19.cell? ⟨w.heap.size, 2, none⟩ = some (.int .i64 c) := kept1 k291 hb19
    have k312 : W19.cell? ⟨w.heap.size, 3, none⟩ = some (.int .i64 d) := kept1 k292 hb19
    have k313 : W19.cell? ⟨w.heap.size + 1, 0, none⟩ = some (.int .i64 e) := kept1 k293 hb19
    have k314 : W19.cell? ⟨w.heap.size + 1, 1, none⟩ = some (.int .i64 f) := kept1 k294 hb19
    have k315 : W19.cell? ⟨w.heap.size + 1, 2, none⟩ = some (.int .i64 g) := kept1 k295 hb19
    have k316 : W19.cell? ⟨w.heap.size + 1, 3, none⟩ = some (.int .i64 h) := kept1 k296 hb19
    have k317 : W19.cell? ⟨w.heap.size + 1 + 1, 0, none⟩ = some (.int .i64 i) := kept1 k297 hb19
    have k318 : W19.cell? ⟨w.heap.size + 1 + 1, 1, none⟩ = some (.int .i64 j) := kept1 k298 hb19
    have k319 : W19.cell? ⟨w.heap.size + 1 + 1 + 1, 0, none⟩ = some (.int .i64 k) := kept1 k299 hb19
    have k320 : W19.cell? ⟨w.heap.size + 1 + 1 + 1, 1, none⟩ = some (.int .i64 l) := kept1 k300 hb19
    have lk309 : w.heap.size < W19.heap.size := block_lt_of_cell k309
    have lk313 : w.heap.size + 1 < W19.heap.size := block_lt_of_cell k313
    have lk317 : w.heap.size + 1 + 1 < W19.heap.size := block_lt_of_cell k317
    have lk319 : w.heap.size + 1 + 1 + 1 < W19.heap.size := block_lt_of_cell k319
    have hv19 : Below w.heap.size w W19 := bstep0 hv18 hb19
    clear hb19 hv18 k289 k290 k291 k292 k293 k294 k295 k296 k297 k298 k299 k300 lk289 lk293 lk297 lk299
    go_wp2_with fail
    refine (HA.out _).mono ?_
    rintro e W20 ⟨rfl, hb20⟩
    have k321 : W20.cell? ⟨w.heap.size, 0, none⟩ = some (.int .i64 a) := kept_a1 k309 hb20
    have k322 : W20.cell? ⟨w.heap.size, 1, none⟩ = some (.int .i64 b) := kept_a1 k310 hb20
    have k323 : W20.cell? ⟨w.heap.size, 2, none⟩ = some (.int .i64 c) := kept_a1 k311 hb20
    have k324 : W20.cell? ⟨w.heap.size, 3, none⟩ = some (.int .i64 d) := kept_a1 k312 hb20
    have k325 : W20.cell? ⟨w.heap.size + 1, 0, none⟩ = some (.int .i64 e) := kept_a1 k313 hb20
    have k326 : W20.cell? ⟨w.heap.size + 1, 1, none⟩ = some (.int .i64 f) := kept_a1 k314 hb20
    have k327 : W20.cell? ⟨w.heap.size + 1, 2, none⟩ = some (.int .i64 g) := kept_a1 k315 hb20
    have k328 : W20.cell? ⟨w.heap.size + 1, 3, none⟩ = some (.int .i64 h) := kept_a1 k316 hb20
    have k329 : W20.cell? ⟨w.heap.size + 1 + 1, 0, none⟩ = some (.int .i64 i) := kept_a1 k317 hb20
    have k330 : W20.cell? ⟨w.heap.size + 1 + 1, 1, none⟩ = some (.int .i64 j) := kept_a1 k318 hb20
    have k331 : W20.cell? ⟨w.heap.size + 1 + 1 + 1, 0, none⟩ = some (.int .i64 k) := kept_a1 k319 hb20
    have k332 : W20.cell? ⟨w.heap.size + 1 + 1 + 1, 1, none⟩ = some (.int .i64 l) := kept_a1 k320 hb20
    have k333 : W20.cell? ⟨W19.heap.size, 0, none⟩ = some (.int .i64 s1) := kept1 (by simp [go_sem]) hb20
    have k334 : W20.cell? ⟨W19.heap.size, 1, none⟩ = some (.int .i64 s2) := kept1 (by simp [go_sem]) hb20
    have k335 : W20.cell? ⟨W19.heap.size, 2, none⟩ = some (.int .i64 s3) := kept1 (by simp [go_sem]) hb20
    have k336 : W20.cell? ⟨W19.heap.size, 3, none⟩ = some (.int .i64 s4) := kept1 (by simp [go_sem]) hb20
    have lk321 : w.heap.size < W20.heap.size := block_lt_of_cell k321
    have lk325 : w.heap.size + 1 < W20.heap.size := block_lt_of_cell k325
    have lk329 : w.heap.size + 1 + 1 < W20.heap.size := block_lt_of_cell k329
    have lk331 : w.heap.size + 1 + 1 + 1 < W20.heap.size := block_lt_of_cell k331
    have lk333 : W19.heap.size < W20.heap.size := block_lt_of_cell k333
    have hv20 : Below w.heap.size w W20 := bstep1 hv19 hb20
    clear hb20 hv19 k309 k310 k311 k312 k313 k314 k315 k316 k317 k318 k319 k320 lk309 lk313 lk317 lk319
    go_upto_region 11 with fail
    have k337 : (W20.alloc (Obj.cells #[.int .i64 x.n, .int .i64 x.d] 23)).cell? ⟨w.heap.size, 0, none⟩ = some (.int .i64 a) := (cell_alloc k321 _)
    have k338 : (W20.alloc (Obj.cells #[.int .i64 x.n, .int .i64 x.d] 23)).cell? ⟨w.heap.size, 1, none⟩ = some (.int .i64 b) := (cell_alloc k322 _)
    have k339 : (W20.alloc (Obj.cells #[.int .i64 x.n, .int .i64 x.d] 23)).cell? ⟨w.heap.size, 2, none⟩ = some (.int .i64 c) := (cell_alloc k323 _)
    have k340 : (W20.alloc (Obj.cells #[.int .i64 x.n, .int .i64 x.d] 23)).cell? ⟨w.heap.size, 3, none⟩ = some (.int .i64 d) := (cell_alloc k324 _)
    have k341 : (W20.alloc (Obj.cells #[.int .i64 x.n, .int .i64 x.d] 23)).cell? ⟨w.heap.size + 1, 0, none⟩ = some (.int .i64 e) := (cell_alloc k325 _)
    have k342 : (W20.alloc (Obj.cells #[.int .i64 x.n, .int .i64 x.d] 23)).cell? ⟨w.heap.size + 1, 1, none⟩ = some (.int .i64 f) := (cell_alloc k326 _)
    have k343 : (W20.alloc (Obj.cells #[.int .i64 x.n, .int .i64 x.d] 23)).cell? ⟨w.heap.size + 1, 2, none⟩ = some (.int .i64 g) := (cell_alloc k327 _)
    have k344 : (W20.alloc (Obj.cells #[.int .i64 x.n, .int .i64 x.d] 23)).cell? ⟨w.heap.size + 1, 3, none⟩ = some (.int .i64 h) := (cell_alloc k328 _)
    have k345 : (W20.alloc (Obj.cells #[.int .i64 x.n, .int .i64 x.d] 23)).cell? ⟨w.heap.size + 1 + 1, 0, none⟩ = some (.int .i64 i) := (cell_alloc k329 _)
    have k346 : (W20.alloc (Obj.cells #[.int .i64 x.n, .int .i64 x.d] 23)).cell? ⟨w.heap.size + 1 + 1, 1, none⟩ = some (.int .i64 j) := (cell_alloc k330 _)
    have k347 : (W20.alloc (Obj.cells #[.int .i64 x.n, .int .i64 x.d] 23)).cell? ⟨w.heap.size + 1 + 1 + 1, 0, none⟩ = some (.int .i64 k) := (cell_alloc k331 _)
    have k348 : (W20.alloc (Obj.cells #[.int .i64 x.n, .int .i64 x.d] 23)).cell? ⟨w.heap.size + 1 + 1 + 1, 1, none⟩ = some (.int .i64 l) := (cell_alloc k332 _)
    have k349 : (W20.alloc (Obj.cells #[.int .i64 x.n, .int .i64 x.d] 23)).cell? ⟨W19.heap.size, 0, none⟩ = some (.int .i64 s1) := (cell_alloc k333 _)
    have k350 : (W20.alloc (Obj.cells #[.int .i64 x.n, .int .i64 x.d] 23)).cell? ⟨W19.heap.size, 1, none⟩ = some (.int .i64 s2) := (cell_alloc k334 _)
    have k351 : (W20.alloc (Obj.cells #[.int .i64 x.n, .int .i64 x.d] 23)).cell? ⟨W19.heap.size, 2, none⟩ = some (.int .i64 s3) := (cell_alloc k335 _)
    have k352 : (W20.alloc (Obj.cells #[.int .i64 x.n, .int .i64 x.d] 23)).cell? ⟨W19.heap.size, 3, none⟩ = some (.int .i64 s4) := (cell_alloc k336 _)
    have k353 : (W20.alloc (Obj.cells #[.int .i64 x.n, .int .i64 x.d] 23)).cell? ⟨W20.heap.size, 0, none⟩ = some (.int .i64 x.n) := by simp [go_sem]
    have k354 : (W20.alloc (Obj.cells #[.int .i64 x.n, .int .i64 x.d] 23)).cell? ⟨W20.heap.size, 1, none⟩ = some (.int .i64 x.d) := by simp [go_sem]
    have lk337 : w.heap.size < (W20.alloc (Obj.cells #[.int .i64 x.n, .int .i64 x.d] 23)).heap.size := block_lt_of_cell k337
    have lk341 : w.heap.size + 1 < (W20.alloc (Obj.cells #[.int .i64 x.n, .int .i64 x.d] 23)).heap.size := block_lt_of_cell k341
    have lk345 : w.heap.size + 1 + 1 < (W20.alloc (Obj.cells #[.int .i64 x.n, .int .i64 x.d] 23)).heap.size := block_lt_of_cell k345
    have lk347 : w.heap.size + 1 + 1 + 1 < (W20.alloc (Obj.cells #[.int .i64 x.n, .int .i64 x.d] 23)).heap.size := block_lt_of_cell k347
    have lk349 : W19.heap.size < (W20.alloc (Obj.cells #[.int .i64 x.n, .int .i64 x.d] 23)).heap.size := block_lt_of_cell k349
    have lk353 : W20.heap.size < (W20.alloc (Obj.cells #[.int .i64 x.n, .int .i64 x.d] 23)).heap.size := block_lt_of_cell k353
    have hv21 : Below w.heap.size w (W20.alloc (Obj.cells #[.int .i64 x.n, .int .i64 x.d] 23)) := (below_alloc hv20 _)
    clear hv20 k321 k322 k323 k324 k325 k326 k327 k328 k329 k330 k331 k332 k333 k334 k335 k336 lk321 lk325 lk329 lk331 lk333
    generalize (W20.alloc (Obj.cells #[.int .i64 x.n, .int .i64 x.d] 23)) = X21 at *
    have hTX : Hid (Tab X21.drew.heap.size X21.drew) := Lib.hid (Lib.tabBelow_of_tabIs (hT.out.on hv21.drew).here)
    go_cut [18, 20, 126] from 95 to 126 (fun _ _ s126 wx => s126 = .bool false ∧ wx.cell? ⟨w.heap.size, 0, none⟩ = some (.int .i64 a) ∧ wx.cell? ⟨w.heap.size, 1, none⟩ = some (.int .i64 b) ∧ wx.cell? ⟨w.heap.size, 2, none⟩ = some (.int .i64 c) ∧ wx.cell? ⟨w.heap.size, 3, none⟩ = some (.int .i64 d) ∧ wx.cell? ⟨w.heap.size + 1, 0, none⟩ = some (.int .i64 e) ∧ wx.cell? ⟨w.heap.size + 1, 1, none⟩ = some (.int .i64 f) ∧ wx.cell? ⟨w.heap.size + 1, 2, none⟩ = some (.int .i64 g) ∧ wx.cell? ⟨w.heap.size + 1, 3, none⟩ = some (.int .i64 h) ∧ wx.cell? ⟨w.heap.size + 1 + 1, 0, none⟩ = some (.int .i64 i) ∧ wx.cell? ⟨w.heap.size + 1 + 1, 1, none⟩ = some (.int .i64 j) ∧ wx.cell? ⟨w.heap.size + 1 + 1 + 1, 0, none⟩ = some (.int .i64 k) ∧ wx.cell? ⟨w.heap.size + 1 + 1 + 1, 1, none⟩ = some (.int .i64 l) ∧ wx.cell? ⟨W19.heap.size, 0, none⟩ = some (.int .i64 s1) ∧ wx.cell? ⟨W19.heap.size, 1, none⟩ = some (.int .i64 s2) ∧ wx.cell? ⟨W19.heap.size, 2, none⟩ = some (.int .i64 s3) ∧ wx.cell? ⟨W19.heap.size, 3, none⟩ = some (.int .i64 s4) ∧ wx.cell? ⟨W20.heap.size, 0, none⟩ = some (.int .i64 x.n) ∧ wx.cell? ⟨W20.heap.size, 1, none⟩ = some (.int .i64 x.d) ∧ Below w.heap.size w wx)
    case first =>
      rcases c11.out with e1 | ⟨e1, e2⟩ | ⟨e1, e2, rfl⟩ | ⟨e1, e2, rfl, rfl⟩ | ⟨e1, e2, rfl, rfl⟩
      · skip
        go_wp2_with fail
        go_meet
        exact ⟨by first | rfl | (simp; done) | (simp; omega), k337, k338, k339, k340, k341, k342, k343, k344, k345, k346, k347, k348, k349, k350, k351, k352, k353, k354, hv21⟩
      · skip
        go_wp2_with fail
        go_meet
        exact ⟨by first | rfl | (simp; done) | (simp; omega), k337, k338, k339, k340, k341, k342, k343, k344, k345, k346, k347, k348, k349, k350, k351, k352, k353, k354, hv21⟩
      · skip
        go_wp2_with fail
        go_meet
        exact ⟨by first | rfl | (simp; done) | (simp; omega), k337, k338, k339, k340, k341, k342, k343, k344, k345, k346, k347, k348, k349, k350, k351, k352, k353, k354, hv21⟩
      · skip
        have HC0 := Lib.hid (HYB.out)
        go_wp2_with fail
        refine (HC0.out _).mono ?_
        rintro e W22 ⟨rfl, hb22⟩
        have k355 : W22.cell? ⟨w.heap.size, 0, none⟩ = some (.int .i64 a) := kept1 k337 hb22
        have k356 : W22.cell? ⟨w.heap.size, 1, none⟩ = some (.int .i64 b) := kept1 k338 hb22
        have k357 : W22.cell? ⟨w.heap.size, 2, none⟩ = some (.int .i64 c) := kept1 k339 hb22
        have k358 : W22.cell? ⟨w.heap.size, 3, none⟩ = some (.int .i64 d) := kept1 k340 hb22
        have k359 : W22.cell? ⟨w.heap.size + 1, 0, none⟩ = some (.int .i64 e) := kept1 k341 hb22
        have k360 : W22.cell? ⟨w.heap.size + 1, 1, none⟩ = some (.int .i64 f) := kept1 k342 hb22
        have k361 : W22.cell? ⟨w.heap.size + 1, 2, none⟩ = some (.int .i64 g) := kept1 k343 hb22
        have k362 : W22.cell? ⟨w.heap.size + 1, 3, none⟩ = some (.int .i64 h) := kept1 k344 hb22
        have k363 : W22.cell? ⟨w.heap.size + 1 + 1, 0, none⟩ = some (.int .i64 i) := kept1 k345 hb22
        have k364 : W22.cell? ⟨w.heap.size + 1 + 1, 1, none⟩ = some (.int .i64 j) := kept1 k346 hb22
        have k365 : W22.cell? ⟨w.heap.size + 1 + 1 + 1, 0, none⟩ = some (.int .i64 k) := kept1 k347 hb22
        have k366 : W22.cell? ⟨w.heap.size + 1 + 1 + 1, 1, none⟩ = some (.int .i64 l) := kept1 k348 hb22
        have k367 : W22.cell? ⟨W19.heap.size, 0, none⟩ = some (.int .i64 s1) := kept1 k349 hb22
        have k368 : W22.cell? ⟨W19.heap.size, 1, none⟩ = some (.int .i64 s2) := kept1 k350 hb22
        have k369 : W22.cell? ⟨W19.heap.size, 2, none⟩ = some (.int .i64 s3) := kept1 k351 hb22
        have k370 : W22.cell? ⟨W19.heap.size, 3, none⟩ = some (.int .i64 s4) := kept1 k352 hb22
        have k371 : W22.cell? ⟨W20.heap.size, 0, none⟩ = some (.int .i64 x.n) := kept1 k353 hb22
        have k372 : W22.cell? ⟨W20.heap.size, 1, none⟩ = some (.int .i64 x.d) := kept1 k354 hb22
        have lk355 : w.heap.size < W22.heap.size := block_lt_of_cell k355
        have lk359 : w.heap.size + 1 < W22.heap.size := block_lt_of_cell k359
        have lk363 : w.heap.size + 1 + 1 < W22.heap.size := block_lt_of_cell k363
        have lk365 : w.heap.size + 1 + 1 + 1 < W22.heap.size := block_lt_of_cell k365
        have lk367 : W19.heap.size < W22.heap.size := block_lt_of_cell k367
        have lk371 : W20.heap.size < W22.heap.size := block_lt_of_cell k371
        have hv22 : Below w.heap.size w W22 := bstep0 hv21 hb22
        clear hb22 hv21 k337 k338 k339 k340 k341 k342 k343 k344 k345 k346 k347 k348 k349 k350 k351 k352 k353 k354 lk337 lk341 lk345 lk347 lk349 lk353
        go_wp2_with fail
        go_meet
        exact ⟨by first | rfl | (simp; done) | (simp; omega), k355, k356, k357, k358, k359, k360, k361, k362, k363, k364, k365, k366, k367, k368, k369, k370, k371, k372, hv22⟩
      · skip
        have HC0 := Lib.hid (HYB.out)
        go_wp2_with fail
        refine (HC0.out _).mono ?_
        rintro e W23 ⟨rfl, hb23⟩
        have k373 : W23.cell? ⟨w.heap.size, 0, none⟩ = some (.int .i64 a) := kept1 k337 hb23
        have k374 : W23.cell? ⟨w.heap.size, 1, none⟩ = some (.int .i64 b) := kept1 k338 hb23
        have k375 : W23.cell? ⟨w.heap.size, 2, none⟩ = some (.int .i64 c) := kept1 k339 hb23
        have k376 : W23.cell? ⟨w.heap.size, 3, none⟩ = some (.int .i64 d) := kept1 k340 hb23
        have k377 : W23.cell? ⟨w.heap.size + 1, 0, none⟩ = some (.int .i64 e) := kept1 k341 hb23
        have k378 : W23.cell? ⟨w.heap.size + 1, 1, none⟩ = some (.int .i64 f) := kept1 k342 hb23
        have k379 : W23.cell? ⟨w.heap.size + 1, 2, none⟩ = some (.int .i64 g) := kept1 k343 hb23
        have k380 : W23.cell? ⟨w.heap.size + 1, 3, none⟩ = some (.int .i64 h) := kept1 k344 hb23
        have k381 : W23.cell? ⟨w.heap.size + 1 + 1, 0, none⟩ = some (.int .i64 i) := kept1 k345 hb23
        have k382 : W23.cell? ⟨w.heap.size + 1 + 1, 1, none⟩ = some (.int .i64 j) := kept1 k346 hb23
        have k383 : W23.cell? ⟨w.heap.size + 1 + 1 + 1, 0, none⟩ = some (.int .i64 k) := kept1 k347 hb23
        have k384 : W23.cell? ⟨w.heap.size + 1 + 1 + 1, 1, none⟩ = some (.int .i64 l) := kept1 k348 hb23
        have k385 : W23.cell? ⟨W19.heap.size, 0, none⟩ = some (.int .i64 s1) := kept1 k349 hb23
        have k386 : W23.cell? ⟨W19.heap.size, 1, none⟩ = some (.int .i64 s2) := kept1 k350 hb23
        have k387 : W23.cell? ⟨W19.heap.size, 2, none⟩ = some (.int .i64 s3) := kept1 k351 hb23
        have k388 : W23.cell? ⟨W19.heap.size, 3, none⟩ = some (.int .i64 s4) := kept1 k352 hb23
        have k389 : W23.cell? ⟨W20.heap.size, 0, none⟩ = some (.int .i64 x.n) := kept1 k353 hb23
        have k390 : W23.cell? ⟨W20.heap.size, 1, none⟩ = some (.int .i64 x.d) := kept1 k354 hb23
        have lk373 : w.heap.size < W23.heap.size := block_lt_of_cell k373
        have lk377 : w.heap.size + 1 < W23.heap.size := block_lt_of_cell k377
        have lk381 : w.heap.size + 1 + 1 < W23.heap.size := block_lt_of_cell k381
        have lk383 : w.heap.size + 1 + 1 + 1 < W23.heap.size := block_lt_of_cell k383
        have lk385 : W19.heap.size < W23.heap.size := block_lt_of_cell k385
        have lk389 : W20.heap.size < W23.heap.size := block_lt_of_cell k389
        have hv23 : Below w.heap.size w W23 := bstep0 hv21 hb23
        clear hb23 hv21 k337 k338 k339 k340 k341 k342 k343 k344 k345 k346 k347 k348 k349 k350 k351 k352 k353 k354 lk337 lk341 lk345 lk347 lk349 lk353
        have HC1 := Lib.hid (HSX.out e1 e2 (by first | rfl | trivial) (by first | rfl | trivial))
        go_wp2_with fail
        refine (HC1.out _).mono ?_
        rintro e W24 ⟨rfl, hb24⟩
        have k391 : W24.cell? ⟨w.heap.size, 0, none⟩ = some (.int .i64 a) := kept1 k373 hb24
        have k392 : W24.cell? ⟨w.heap.size, 1, none⟩ = some (.int .i64 b) := kept1 k374 hb24
        have k393 : W24.cell? ⟨w.heap.size, 2, none⟩ = some (.int .i64 c) := kept1 k375 hb24
        have k394 : W24.cell? ⟨w.heap.size, 3, none⟩ = some (.int .i64 d) := kept1 k376 hb24
        have k395 : W24.cell? ⟨w.heap.size + 1, 0, none⟩ = some (.int .i64 e) := kept1 k377 hb24
        have k396 : W24.cell? ⟨w.heap.size + 1, 1, none⟩ = some (.int .i64 f) := kept1 k378 hb24
        have k397 : W24.cell? ⟨w.heap.size + 1, 2, none⟩ = some (.int .i64 g) := kept1 k379 hb24
        have k398 : W24.cell? ⟨w.heap.size + 1, 3, none⟩ = some (.int .i64 h) := kept1 k380 hb24
        have k399 : W24.cell? ⟨w.heap.size + 1 + 1, 0, none⟩ = some (.int .i64 i) := kept1 k381 hb24
        have k400 : W24.cell? ⟨w.heap.size + 1 + 1, 1, none⟩ = some (.int .i64 j) := kept1 k382 hb24
        have k401 : W24.cell? ⟨w.heap.size + 1 + 1 + 1, 0, none⟩ = some (.int .i64 k) := kept1 k383 hb24
        have k402 : W24.cell? ⟨w.heap.size + 1 + 1 + 1, 1, none⟩ = some (.int .i64 l) := kept1 k384 hb24
        have k403 : W24.cell? ⟨W19.heap.size, 0, none⟩ = some (.int .i64 s1) := kept1 k385 hb24
        have k404 : W24.cell? ⟨W19.heap.size, 1, none⟩ = some (.int .i64 s2) := kept1 k386 hb24
        have k405 : W24.cell? ⟨W19.heap.size, 2, none⟩ = some (.int .i64 s3) := kept1 k387 hb24
        have k406 : W24.cell? ⟨W19.heap.size, 3, none⟩ = some (.int .i64 s4) := kept1 k388 hb24
        have k407 : W24.cell? ⟨W20.heap.size, 0, none⟩ = some (.int .i64 x.n) := kept1 k389 hb24
        have k408 : W24.cell? ⟨W20.heap.size, 1, none⟩ = some (.int .i64 x.d) := kept1 k390 hb24
        have lk391 : w.heap.size < W24.heap.size := block_lt_of_cell k391
        have lk395 : w.heap.size + 1 < W24.heap.size := block_lt_of_cell k395
        have lk399 : w.heap.size + 1 + 1 < W24.heap.size := block_lt_of_cell k399
        have lk401 : w.heap.size + 1 + 1 + 1 < W24.heap.size := block_lt_of_cell k401
        have lk403 : W19.heap.size < W24.heap.size := block_lt_of_cell k403
        have lk407 : W20.heap.size < W24.heap.size := block_lt_of_cell k407
        have hv24 : Below w.heap.size w W24 := bstep0 hv23 hb24
        clear hb24 hv23 k373 k374 k375 k376 k377 k378 k379 k380 k381 k382 k383 k384 k385 k386 k387 k388 k389 k390 lk373 lk377 lk381 lk383 lk385 lk389
        go_wp2_with fail
        go_meet
        exact ⟨by first | rfl | (simp; done) | (simp; omega), k391, k392, k393, k394, k395, k396, k397, k398, k399, k400, k401, k402, k403, k404, k405, k406, k407, k408, hv24⟩
    case rest =>
      generalize wc = V25 at hcut ⊢
      clear wc
      obtain ⟨rfl, k409, k410, k411, k412, k413, k414, k415, k416, k417, k418, k419, k420, k421, k422, k423, k424, k425, k426, hv25⟩ := hcut
      clear hv21 k337 k338 k339 k340 k341 k342 k343 k344 k345 k346 k347 k348 k349 k350 k351 k352 k353 k354 lk337 lk341 lk345 lk347 lk349 lk353
      have lk409 : w.heap.size < V25.heap.size := block_lt_of_cell k409
      have lk413 : w.heap.size + 1 < V25.heap.size := block_lt_of_cell k413
      have lk417 : w.heap.size + 1 + 1 < V25.heap.size := block_lt_of_cell k417
      have lk419 : w.heap.size + 1 + 1 + 1 < V25.heap.size := block_lt_of_cell k419
      have lk421 : W19.heap.size < V25.heap.size := block_lt_of_cell k421
      have lk425 : W20.heap.size < V25.heap.size := block_lt_of_cell k425
      clear k421 k422 k423 k424 lk421
      clear k425 k426 lk425
      go_wp2_with fail
      refine (HP.out _).mono ?_
      rintro e W26 ⟨rfl, hb26⟩
      have k427 : W26.cell? ⟨w.heap.size, 0, none⟩ = some (.int .i64 a) := kept1 k409 hb26
      have k428 : W26.cell? ⟨w.heap.size, 1, none⟩ = some (.int .i64 b) := kept1 k410 hb26
      have k429 : W26.cell? ⟨w.heap.size, 2, none⟩ = some (.int .i64 c) := kept1 k411 hb26
      have k430 : W26.cell? ⟨w.heap.size, 3, none⟩ = some (.int .i64 d) := kept1 k412 hb26
      have k431 : W26.cell? ⟨w.heap.size + 1, 0, none⟩ = some (.int .i64 e) := kept1 k413 hb26
      have k432 : W26.cell? ⟨w.heap.size + 1, 1, none⟩ = some (.int .i64 f) := kept1 k414 hb26
      have k433 : W26.cell? ⟨w.heap.size + 1, 2, none⟩ = some (.int .i64 g) := kept1 k415 hb26
      have k434 : W26.cell? ⟨w.heap.size + 1, 3, none⟩ = some (.int .i64 h) := kept1 k416 hb26
      have k435 : W26.cell? ⟨w.heap.size + 1 + 1, 0, none⟩ = some (.int .i64 i) := kept1 k417 hb26
      have k436 : W26.cell? ⟨w.heap.size + 1 + 1, 1, none⟩ = some (.int .i64 j) := kept1 k418 hb26
      have k437 : W26.cell? ⟨w.heap.size + 1 + 1 + 1, 0, none⟩ = some (.int .i64 k) := kept1 k419 hb26
      have k438 : W26.cell? ⟨w.heap.size + 1 + 1 + 1, 1, none⟩ = some (.int .i64 l) := kept1 k420 hb26
      have lk427 : w.heap.size < W26.heap.size := block_lt_of_cell k427
      have lk431 : w.heap.size + 1 < W26.heap.size := block_lt_of_cell k431
      have lk435 : w.heap.size + 1 + 1 < W26.heap.size := block_lt_of_cell k435
      have lk437 : w.heap.size + 1 + 1 + 1 < W26.heap.size := block_lt_of_cell k437
      have hv26 : Below w.heap.size w W26 := bstep0 hv25 hb26
      clear hb26 hv25 k409 k410 k411 k412 k413 k414 k415 k416 k417 k418 k419 k420 lk409 lk413 lk417 lk419
      go_wp2_with fail
      refine (HQ.out _).mono ?_
      rintro e W27 ⟨rfl, hb27⟩
      have k439 : W27.cell? ⟨w.heap.size, 0, none⟩ = some (.int .i64 a) := kept_a1 k427 hb27
      have k440 : W27.cell? ⟨w.heap.size, 1, none⟩ = some (.int .i64 b) := kept_a1 k428 hb27
      have k441 : W27.cell? ⟨w.heap.size, 2, none⟩ = some (.int .i64 c) := kept_a1 k429 hb27
      have k442 : W27.cell? ⟨w.heap.size, 3, none⟩ = some (.int .i64 d) := kept_a1 k430 hb27
      have k443 : W27.cell? ⟨w.heap.size + 1, 0, none⟩ = some (.int .i64 e) := kept_a1 k431 hb27
      have k444 : W27.cell? ⟨w.heap.size + 1, 1, none⟩ = some (.int .i64 f) := kept_a1 k432 hb27
      have k445 : W27.cell? ⟨w.heap.size + 1, 2, none⟩ = some (.int .i64 g) := kept_a1 k433 hb27
      have k446 : W27.cell? ⟨w.heap.size + 1, 3, none⟩ = some (.int .i64 h) := kept_a1 k434 hb27
      have k447 : W27.cell? ⟨w.heap.size + 1 + 1, 0, none⟩ = some (.int .i64 i) := kept_a1 k435 hb27
      have k448 : W27.cell? ⟨w.heap.size + 1 + 1, 1, none⟩ = some (.int .i64 j) := kept_a1 k436 hb27
      have k449 : W27.cell? ⟨w.heap.size + 1 + 1 + 1, 0, none⟩ = some (.int .i64 k) := kept_a1 k437 hb27
      have k450 : W27.cell? ⟨w.heap.size + 1 + 1 + 1, 1, none⟩ = some (.int .i64 l) := kept_a1 k438 hb27
      have k451 : W27.cell? ⟨W26.heap.size, 0, none⟩ = some (.int .i64 q1) := kept1 (by simp [go_sem]) hb27
      have k452 : W27.cell? ⟨W26.heap.size, 1, none⟩ = some (.int .i64 q2) := kept1 (by simp [go_sem]) hb27
      have k453 : W27.cell? ⟨W26.heap.size, 2, none⟩ = some (.int .i64 q3) := kept1 (by simp [go_sem]) hb27
      have k454 : W27.cell? ⟨W26.heap.size, 3, none⟩ = some (.int .i64 q4) := kept1 (by simp [go_sem]) hb27
      have lk439 : w.heap.size < W27.heap.size := block_lt_of_cell k439
      have lk443 : w.heap.size + 1 < W27.heap.size := block_lt_of_cell k443
      have lk447 : w.heap.size + 1 + 1 < W27.heap.size := block_lt_of_cell k447
      have lk449 : w.heap.size + 1 + 1 + 1 < W27.heap.size := block_lt_of_cell k449
      have lk451 : W26.heap.size < W27.heap.size := block_lt_of_cell k451
      have hv27 : Below w.heap.size w W27 := bstep1 hv26 hb27
      clear hb27 hv26 k427 k428 k429 k430 k431 k432 k433 k434 k435 k436 k437 k438 lk427 lk431 lk435 lk437
      go_upto_region 15 with fail
      have k455 : (W27.alloc (Obj.cells #[.int .i64 y.n, .int .i64 y.d] 23)).cell? ⟨w.heap.size, 0, none⟩ = some (.int .i64 a) := (cell_alloc k439 _)
      have k456 : (W27.alloc (Obj.cells #[.int .i64 y.n, .int .i64 y.d] 23)).cell? ⟨w.heap.size, 1, none⟩ = some (.int .i64 b) := (cell_alloc k440 _)
      have k457 : (W27.alloc (Obj.cells #[.int .i64 y.n, .int .i64 y.d] 23)).cell? ⟨w.heap.size, 2, none⟩ = some (.int .i64 c) := (cell_alloc k441 _)
      have k458 : (W27.alloc (Obj.cells #[.int .i64 y.n, .int .i64 y.d] 23)).cell? ⟨w.heap.size, 3, none⟩ = some (.int .i64 d) := (cell_alloc k442 _)
      have k459 : (W27.alloc (Obj.cells #[.int .i64 y.n, .int .i64 y.d] 23)).cell? ⟨w.heap.size + 1, 0, none⟩ = some (.int .i64 e) := (cell_alloc k443 _)
      have k460 : (W27.alloc (Obj.cells #[.int .i64 y.n, .int .i64 y.d] 23)).cell? ⟨w.heap.size + 1, 1, none⟩ = some (.int .i64 f) := (cell_alloc k444 _)
      have k461 : (W27.alloc (Obj.cells #[.int .i64 y.n, .int .i64 y.d] 23)).cell? ⟨w.heap.size + 1, 2, none⟩ = some (.int .i64 g) := (cell_alloc k445 _)
      have k462 : (W27.alloc (Obj.cells #[.int .i64 y.n, .int .i64 y.d] 23)).cell? ⟨w.heap.size + 1, 3, none⟩ = some (.int .i64 h) := (cell_alloc k446 _)
      have k463 : (W27.alloc (Obj.cells #[.int .i64 y.n, .int .i64 y.d] 23)).cell? ⟨w.heap.size + 1 + 1, 0, none⟩ = some (.int .i64 i) := (cell_alloc k447 _)
      have k464 : (W27.alloc (Obj.cells #[.int .i64 y.n, .int .i64 y.d] 23)).cell? ⟨w.heap.size + 1 + 1, 1, none⟩ = some (.int .i64 j) := (cell_alloc k448 _)
      have k465 : (W27.alloc (Obj.cells #[.int .i64 y.n, .int .i64 y.d] 23)).cell? ⟨w.heap.size + 1 + 1 + 1, 0, none⟩ = some (.int .i64 k) := (cell_alloc k449 _)
      have k466 : (W27.alloc (Obj.cells #[.int .i64 y.n, .int .i64 y.d] 23)).cell? ⟨w.heap.size + 1 + 1 + 1, 1, none⟩ = some (.int .i64 l) := (cell_alloc k450 _)
      have k467 : (W27.alloc (Obj.cells #[.int .i64 y.n, .int .i64 y.d] 23)).cell? ⟨W26.heap.size, 0, none⟩ = some (.int .i64 q1) := (cell_alloc k451 _)
      have k468 : (W27.alloc (Obj.cells #[.int .i64 y.n, .int .i64 y.d] 23)).cell? ⟨W26.heap.size, 1, none⟩ = some (.int .i64 q2) := (cell_alloc k452 _)
      have k469 : (W27.alloc (Obj.cells #[.int .i64 y.n, .int .i64 y.d] 23)).cell? ⟨W26.heap.size, 2, none⟩ = some (.int .i64 q3) := (cell_alloc k453 _)
      have k470 : (W27.alloc (Obj.cells #[.int .i64 y.n, .int .i64 y.d] 23)).cell? ⟨W26.heap.size, 3, none⟩ = some (.int .i64 q4) := (cell_alloc k454 _)
      have k471 : (W27.alloc (Obj.cells #[.int .i64 y.n, .int .i64 y.d] 23)).cell? ⟨W27.heap.size, 0, none⟩ = some (.int .i64 y.n) := by simp [go_sem]
      have k472 : (W27.alloc (Obj.cells #[.int .i64 y.n, .int .i64 y.d] 23)).cell? ⟨W27.heap.size, 1, none⟩ = some (.int .i64 y.d) := by simp [go_sem]
      have lk455 : w.heap.size < (W27.alloc (Obj.cells #[.int .i64 y.n, .int .i64 y.d] 23)).heap.size := block_lt_of_cell k455
      have lk459 : w.heap.size + 1 < (W27.alloc (Obj.cells #[.int .i64 y.n, .int .i64 y.d] 23)).heap.size := block_lt_of_cell k459
      have lk463 : w.heap.size + 1 + 1 < (W27.alloc (Obj.cells #[.int .i64 y.n, .int .i64 y.d] 23)).heap.size := block_lt_of_cell k463
      have lk465 : w.heap.size + 1 + 1 + 1 < (W27.alloc (Obj.cells #[.int .i64 y.n, .int .i64 y.d] 23)).heap.size := block_lt_of_cell k465
      have lk467 : W26.heap.size < (W27.alloc (Obj.cells #[.int .i64 y.n, .int .i64 y.d] 23)).heap.size := block_lt_of_cell k467
      have lk471 : W27.heap.size < (W27.alloc (Obj.cells #[.int .i64 y.n, .int .i64 y.d] 23)).heap.size := block_lt_of_cell k471
      have hv28 : Below w.heap.size w (W27.alloc (Obj.cells #[.int .i64 y.n, .int .i64 y.d] 23)) := (below_alloc hv27 _)
      clear hv27 k439 k440 k441 k442 k443 k444 k445 k446 k447 k448 k449 k450 k451 k452 k453 k454 lk439 lk443 lk447 lk449 lk451
      generalize (W27.alloc (Obj.cells #[.int .i64 y.n, .int .i64 y.d] 23)) = X28 at *
      have hTX : Hid (Tab X28.drew.heap.size X28.drew) := Lib.hid (Lib.tabBelow_of_tabIs (hT.out.on hv28.drew).here)
      go_cut [18, 20, 153] from 127 to 153 (fun _ _ s153 wx => s153 = .bool false ∧ wx.cell? ⟨w.heap.size, 0, none⟩ = some (.int .i64 a) ∧ wx.cell? ⟨w.heap.size, 1, none⟩ = some (.int .i64 b) ∧ wx.cell? ⟨w.heap.size, 2, none⟩ = some (.int .i64 c) ∧ wx.cell? ⟨w.heap.size, 3, none⟩ = some (.int .i64 d) ∧ wx.cell? ⟨w.heap.size + 1, 0, none⟩ = some (.int .i64 e) ∧ wx.cell? ⟨w.heap.size + 1, 1, none⟩ = some (.int .i64 f) ∧ wx.cell? ⟨w.heap.size + 1, 2, none⟩ = some (.int .i64 g) ∧ wx.cell? ⟨w.heap.size + 1, 3, none⟩ = some (.int .i64 h) ∧ wx.cell? ⟨w.heap.size + 1 + 1, 0, none⟩ = some (.int .i64 i) ∧ wx.cell? ⟨w.heap.size + 1 + 1, 1, none⟩ = some (.int .i64 j) ∧ wx.cell? ⟨w.heap.size + 1 + 1 + 1, 0, none⟩ = some (.int .i64 k) ∧ wx.cell? ⟨w.heap.size + 1 + 1 + 1, 1, none⟩ = some (.int .i64 l) ∧ wx.cell? ⟨W26.heap.size, 0, none⟩ = some (.int .i64 q1) ∧ wx.cell? ⟨W26.heap.size, 1, none⟩ = some (.int .i64 q2) ∧ wx.cell? ⟨W26.heap.size, 2, none⟩ = some (.int .i64 q3) ∧ wx.cell? ⟨W26.heap.size, 3, none⟩ = some (.int .i64 q4) ∧ wx.cell? ⟨W27.heap.size, 0, none⟩ = some (.int .i64 y.n) ∧ wx.cell? ⟨W27.heap.size, 1, none⟩ = some (.int .i64 y.d) ∧ Below w.heap.size w wx)
      case first =>
        rcases c15.out with e1 | ⟨e1, e2⟩ | ⟨e1, e2, rfl⟩ | ⟨e1, e2, rfl⟩
        · skip
          go_wp2_with fail
          go_meet
          exact ⟨by first | rfl | (simp; done) | (simp; omega), k455, k456, k457, k458, k459, k460, k461, k462, k463, k464, k465, k466, k467, k468, k469, k470, k471, k472, hv28⟩
        · skip
          go_wp2_with fail
          go_meet
          exact ⟨by first | rfl | (simp; done) | (simp; omega), k455, k456, k457, k458, k459, k460, k461, k462, k463, k464, k465, k466, k467, k468, k469, k470, k471, k472, hv28⟩
        · skip
          go_wp2_with fail
          go_meet
          exact ⟨by first | rfl | (simp; done) | (simp; omega), k455, k456, k457, k458, k459, k460, k461, k462, k463, k464, k465, k466, k467, k468, k469, k470, k471, k472, hv28⟩
        · skip
          have HC0 := Lib.hid (HPY.out e1 e2 (by first | rfl | trivial))
          go_wp2_with fail
          refine (HC0.out _).mono ?_
          rintro e W29 ⟨rfl, hb29⟩
          have k473 : W29.cell? ⟨w.heap.size, 0, none⟩ = some (.int .i64 a) := kept1 k455 hb29
          have k474 : W29.cell? ⟨w.heap.size, 1, none⟩ = some (.int .i64 b) := kept1 k456 hb29
          have k475 : W29.cell? ⟨w.heap.size, 2, none⟩ = some (.int .i64 c) := kept1 k457 hb29
          have k476 : W29.cell? ⟨w.heap.size, 3, none⟩ = some (.int .i64 d) := kept1 k458 hb29
          have k477 : W29.cell? ⟨w.heap.size + 1, 0, none⟩ = some (.int .i64 e) := kept1 k459 hb29
          have k478 : W29.cell? ⟨w.heap.size + 1, 1, none⟩ = some (.int .i64 f) := kept1 k460 hb29
          have k479 : W29.cell? ⟨w.heap.size + 1, 2, none⟩ = some (.int .i64 g) := kept1 k461 hb29
          have k480 : W29.cell? ⟨w.heap.size + 1, 3, none⟩ = some (.int .i64 h) := kept1 k462 hb29
          have k481 : W29.cell? ⟨w.heap.size + 1 + 1, 0, none⟩ = some (.int .i64 i) := kept1 k463 hb29
          have k482 : W29.cell? ⟨w.heap.size + 1 + 1, 1, none⟩ = some (.int .i64 j) := kept1 k464 hb29
          have k483 : W29.cell? ⟨w.heap.size + 1 + 1 + 1, 0, none⟩ = some (.int .i64 k) := kept1 k465 hb29
          have k484 : W29.cell? ⟨w.heap.size + 1 + 1 + 1, 1, none⟩ = some (.int .i64 l) := kept1 k466 hb29
          have k485 : W29.cell? ⟨W26.heap.size, 0, none⟩ = some (.int .i64 q1) := kept1 k467 hb29
          have k486 : W29.cell? ⟨W26.heap.size, 1, none⟩ = some (.int .i64 q2) := kept1 k468 hb29
          have k487 : W29.cell? ⟨W26.heap.size, 2, none⟩ = some (.int .i64 q3) := kept1 k469 hb29
          have k488 : W29.cell? ⟨W26.heap.size, 3, none⟩ = some (.int .i64 q4) := kept1 k470 hb29
          have k489 : W29.cell? ⟨W27.heap.size, 0, none⟩ = some (.int .i64 y.n) := kept1 k471 hb29
          have k490 : W29.cell? ⟨W27.heap.size, 1, none⟩ = some (.int .i64 y.d) := kept1 k472 hb29
          have lk473 : w.heap.size < W29.heap.size := block_lt_of_cell k473
          have lk477 : w.heap.size + 1 < W29.heap.size := block_lt_of_cell k477
          have lk481 : w.heap.size + 1 + 1 < W29.heap.size := block_lt_of_cell k481
          have lk483 : w.heap.size + 1 + 1 + 1 < W29.heap.size := block_lt_of_cell k483
          have lk485 : W26.heap.size < W29.heap.size := block_lt_of_cell k485
          have lk489 : W27.heap.size < W29.heap.size := block_lt_of_cell k489
          have hv29 : Below w.heap.size w W29 := bstep0 hv28 hb29
          clear hb29 hv28 k455 k456 k457 k458 k459 k460 k461 k462 k463 k464 k465 k466 k467 k468 k469 k470 k471 k472 lk455 lk459 lk463 lk465 lk467 lk471
          go_wp2_with fail
          go_meet
          exact ⟨by first | rfl | (simp; done) | (simp; omega), k473, k474, k475, k476, k477, k478, k479, k480, k481, k482, k483, k484, k485, k486, k487, k488, k489, k490, hv29⟩
      case rest =>
        generalize wc = V30 at hcut ⊢
        clear wc
        obtain ⟨rfl, k491, k492, k493, k494, k495, k496, k497, k498, k499, k500, k501, k502, k503, k504, k505, k506, k507, k508, hv30⟩ := hcut
        clear hv28 k455 k456 k457 k458 k459 k460 k461 k462 k463 k464 k465 k466 k467 k468 k469 k470 k471 k472 lk455 lk459 lk463 lk465 lk467 lk471
        have lk491 : w.heap.size < V30.heap.size := block_lt_of_cell k491
        have lk495 : w.heap.size + 1 < V30.heap.size := block_lt_of_cell k495
        have lk499 : w.heap.size + 1 + 1 < V30.heap.size := block_lt_of_cell k499
        have lk501 : w.heap.size + 1 + 1 + 1 < V30.heap.size := block_lt_of_cell k501
        have lk503 : W26.heap.size < V30.heap.size := block_lt_of_cell k503
        have lk507 : W27.heap.size < V30.heap.size := block_lt_of_cell k507
        clear k503 k504 k505 k506 lk503
        clear k507 k508 lk507
        go_wp2_with fail
        refine (HW.out _).mono ?_
        rintro e W31 ⟨rfl, hb31⟩
        have k509 : W31.cell? ⟨w.heap.size, 0, none⟩ = some (.int .i64 a) := kept1 k491 hb31
        have k510 : W31.cell? ⟨w.heap.size, 1, none⟩ = some (.int .i64 b) := kept1 k492 hb31
        have k511 : W31.cell? ⟨w.heap.size, 2, none⟩ = some (.int .i64 c) := kept1 k493 hb31
        have k512 : W31.cell? ⟨w.heap.size, 3, none⟩ = some (.int .i64 d) := kept1 k494 hb31
        have k513 : W31.cell? ⟨w.heap.size + 1, 0, none⟩ = some (.int .i64 e) := kept1 k495 hb31
        have k514 : W31.cell? ⟨w.heap.size + 1, 1, none⟩ = some (.int .i64 f) := kept1 k496 hb31
        have k515 : W31.cell? ⟨w.heap.size + 1, 2, none⟩ = some (.int .i64 g) := kept1 k497 hb31
        have k516 : W31.cell? ⟨w.heap.size + 1, 3, none⟩ = some (.int .i64 h) := kept1 k498 hb31
        have k517 : W31.cell? ⟨w.heap.size + 1 + 1, 0, none⟩ = some (.int .i64 i) := kept1 k499 hb31
        have k518 : W31.cell? ⟨w.heap.size + 1 + 1, 1, none⟩ = some (.int .i64 j) := kept1 k500 hb31
        have k519 : W31.cell? ⟨w.heap.size + 1 + 1 + 1, 0, none⟩ = some (.int .i64 k) := kept1 k501 hb31
        have k520 : W31.cell? ⟨w.heap.size + 1 + 1 + 1, 1, none⟩ = some (.int .i64 l) := kept1 k502 hb31
        have lk509 : w.heap.size < W31.heap.size := block_lt_of_cell k509
        have lk513 : w.heap.size + 1 < W31.heap.size := block_lt_of_cell k513
        have lk517 : w.heap.size + 1 + 1 < W31.heap.size := block_lt_of_cell k517
        have lk519 : w.heap.size + 1 + 1 + 1 < W31.heap.size := block_lt_of_cell k519
        have hv31 : Below w.heap.size w W31 := bstep0 hv30 hb31
        clear hb31 hv30 k491 k492 k493 k494 k495 k496 k497 k498 k499 k500 k501 k502 lk491 lk495 lk499 lk501
        go_wp2_with fail
        refine (HK.out _).mono ?_
        rintro e W32 ⟨rfl, hb32⟩
        have k521 : W32.cell? ⟨w.heap.size, 0, none⟩ = some (.int .i64 a) := kept_a1 k509 hb32
        have k522 : W32.cell? ⟨w.heap.size, 1, none⟩ = some (.int .i64 b) := kept_a1 k510 hb32
        have k523 : W32.cell? ⟨w.heap.size, 2, none⟩ = some (.int .i64 c) := kept_a1 k511 hb32
        have k524 : W32.cell? ⟨w.heap.size, 3, none⟩ = some (.int .i64 d) := kept_a1 k512 hb32
        have k525 : W32.cell? ⟨w.heap.size + 1, 0, none⟩ = some (.int .i64 e) := kept_a1 k513 hb32
        have k526 : W32.cell? ⟨w.heap.size + 1, 1, none⟩ = some (.int .i64 f) := kept_a1 k514 hb32
        have k527 : W32.cell? ⟨w.heap.size + 1, 2, none⟩ = some (.int .i64 g) := kept_a1 k515 hb32
        have k528 : W32.cell? ⟨w.heap.size + 1, 3, none⟩ = some (.int .i64 h) := kept_a1 k516 hb32
        have k529 : W32.cell? ⟨w.heap.size + 1 + 1, 0, none⟩ = some (.int .i64 i) := kept_a1 k517 hb32
        have k530 : W32.cell? ⟨w.heap.size + 1 + 1, 1, none⟩ = some (.int .i64 j) := kept_a1 k518 hb32
        have k531 : W32.cell? ⟨w.heap.size + 1 + 1 + 1, 0, none⟩ = some (.int .i64 k) := kept_a1 k519 hb32
        have k532 : W32.cell? ⟨w.heap.size + 1 + 1 + 1, 1, none⟩ = some (.int .i64 l) := kept_a1 k520 hb32
        have k533 : W32.cell? ⟨W31.heap.size, 0, none⟩ = some (.int .i64 w1) := kept1 (by simp [go_sem]) hb32
        have k534 : W32.cell? ⟨W31.heap.size, 1, none⟩ = some (.int .i64 w2) := kept1 (by simp [go_sem]) hb32
        have lk521 : w.heap.size < W32.heap.size := block_lt_of_cell k521
        have lk525 : w.heap.size + 1 < W32.heap.size := block_lt_of_cell k525
        have lk529 : w.heap.size + 1 + 1 < W32.heap.size := block_lt_of_cell k529
        have lk531 : w.heap.size + 1 + 1 + 1 < W32.heap.size := block_lt_of_cell k531
        have lk533 : W31.heap.size < W32.heap.size := block_lt_of_cell k533
        have hv32 : Below w.heap.size w W32 := bstep1 hv31 hb32
        clear hb32 hv31 k509 k510 k511 k512 k513 k514 k515 k516 k517 k518 k519 k520 lk509 lk513 lk517 lk519
        go_upto_region 19 with fail
        have k535 : (W32.alloc (Obj.cells #[.int .i64 n, .int .i64 1] 23)).cell? ⟨w.heap.size, 0, none⟩ = some (.int .i64 a) := (cell_alloc k521 _)
        have k536 : (W32.alloc (Obj.cells #[.int .i64 n, .int .i64 1] 23)).cell? ⟨w.heap.size, 1, none⟩ = some (.int .i64 b) := (cell_alloc k522 _)
        have k537 : (W32.alloc (Obj.cells #[.int .i64 n, .int .i64 1] 23)).cell? ⟨w.heap.size, 2, none⟩ = some (.int .i64 c) := (cell_alloc k523 _)
        have k538 : (W32.alloc (Obj.cells #[.int .i64 n, .int .i64 1] 23)).cell? ⟨w.heap.size, 3, none⟩ = some (.int .i64 d) := (cell_alloc k524 _)
        have k539 : (W32.alloc (Obj.cells #[.int .i64 n, .int .i64 1] 23)).cell? ⟨w.heap.size + 1, 0, none⟩ = some (.int .i64 e) := (cell_alloc k525 _)
        have k540 : (W32.alloc (Obj.cells #[.int .i64 n, .int .i64 1] 23)).cell? ⟨w.heap.size + 1, 1, none⟩ = some (.int .i64 f) := (cell_alloc k526 _)
        have k541 : (W32.alloc (Obj.cells #[.int .i64 n, .int .i64 1] 23)).cell? ⟨w.heap.size + 1, 2, none⟩ = some (.int .i64 g) := (cell_alloc k527 _)
        have k542 : (W32.alloc (Obj.cells #[.int .i64 n, .int .i64 1] 23)).cell? ⟨w.heap.size + 1, 3, none⟩ = some (.int .i64 h) := (cell_alloc k528 _)
        have k543 : (W32.alloc (Obj.cells #[.int .i64 n, .int .i64 1] 23)).cell? ⟨w.heap.size + 1 + 1, 0, none⟩ = some (.int .i64 i) := (cell_alloc k529 _)
        have k544 : (W32.alloc (Obj.cells #[.int .i64 n, .int .i64 1] 23)).cell? ⟨w.heap.size + 1 + 1, 1, none⟩ = some (.int .i64 j) := (cell_alloc k530 _)
        have k545 : (W32.alloc (Obj.cells #[.int .i64 n, .int .i64 1] 23)).cell? ⟨w.heap.size + 1 + 1 + 1, 0, none⟩ = some (.int .i64 k) := (cell_alloc k531 _)
        have k546 : (W32.alloc (Obj.cells #[.int .i64 n, .int .i64 1] 23)).cell? ⟨w.heap.size + 1 + 1 + 1, 1, none⟩ = some (.int .i64 l) := (cell_alloc k532 _)
        have k547 : (W32.alloc (Obj.cells #[.int .i64 n, .int .i64 1] 23)).cell? ⟨W31.heap.size, 0, none⟩ = some (.int .i64 w1) := (cell_alloc k533 _)
        have k548 : (W32.alloc (Obj.cells #[.int .i64 n, .int .i64 1] 23)).cell? ⟨W31.heap.size, 1, none⟩ = some (.int .i64 w2) := (cell_alloc k534 _)
        have k549 : (W32.alloc (Obj.cells #[.int .i64 n, .int .i64 1] 23)).cell? ⟨W32.heap.size, 0, none⟩ = some (.int .i64 n) := by simp [go_sem]
        have k550 : (W32.alloc (Obj.cells #[.int .i64 n, .int .i64 1] 23)).cell? ⟨W32.heap.size, 1, none⟩ = some (.int .i64 1) := by simp [go_sem]
        have lk535 : w.heap.size < (W32.alloc (Obj.cells #[.int .i64 n, .int .i64 1] 23)).heap.size := block_lt_of_cell k535
        have lk539 : w.heap.size + 1 < (W32.alloc (Obj.cells #[.int .i64 n, .int .i64 1] 23)).heap.size := block_lt_of_cell k539
        have lk543 : w.heap.size + 1 + 1 < (W32.alloc (Obj.cells #[.int .i64 n, .int .i64 1] 23)).heap.size := block_lt_of_cell k543
        have lk545 : w.heap.size + 1 + 1 + 1 < (W32.alloc (Obj.cells #[.int .i64 n, .int .i64 1] 23)).heap.size := block_lt_of_cell k545
        have lk547 : W31.heap.size < (W32.alloc (Obj.cells #[.int .i64 n, .int .i64 1] 23)).heap.size := block_lt_of_cell k547
        have lk549 : W32.heap.size < (W32.alloc (Obj.cells #[.int .i64 n, .int .i64 1] 23)).heap.size := block_lt_of_cell k549
        have hv33 : Below w.heap.size w (W32.alloc (Obj.cells #[.int .i64 n, .int .i64 1] 23)) := (below_alloc hv32 _)
        clear hv32 k521 k522 k523 k524 k525 k526 k527 k528 k529 k530 k531 k532 k533 k534 lk521 lk525 lk529 lk531 lk533
        generalize (W32.alloc (Obj.cells #[.int .i64 n, .int .i64 1] 23)) = X33 at *
        have hTX : Hid (Tab X33.drew.heap.size X33.drew) := Lib.hid (Lib.tabBelow_of_tabIs (hT.out.on hv33.drew).here)
        go_cut [24, 185] from 154 to 185 (fun _ s185 wx => s185 = .bool false ∧ wx.cell? ⟨w.heap.size, 0, none⟩ = some (.int .i64 a) ∧ wx.cell? ⟨w.heap.size, 1, none⟩ = some (.int .i64 b) ∧ wx.cell? ⟨w.heap.size, 2, none⟩ = some (.int .i64 c) ∧ wx.cell? ⟨w.heap.size, 3, none⟩ = some (.int .i64 d) ∧ wx.cell? ⟨w.heap.size + 1, 0, none⟩ = some (.int .i64 e) ∧ wx.cell? ⟨w.heap.size + 1, 1, none⟩ = some (.int .i64 f) ∧ wx.cell? ⟨w.heap.size + 1, 2, none⟩ = some (.int .i64 g) ∧ wx.cell? ⟨w.heap.size + 1, 3, none⟩ = some (.int .i64 h) ∧ wx.cell? ⟨w.heap.size + 1 + 1, 0, none⟩ = some (.int .i64 i) ∧ wx.cell? ⟨w.heap.size + 1 + 1, 1, none⟩ = some (.int .i64 j) ∧ wx.cell? ⟨w.heap.size + 1 + 1 + 1, 0, none⟩ = some (.int .i64 k) ∧ wx.cell? ⟨w.heap.size + 1 + 1 + 1, 1, none⟩ = some (.int .i64 l) ∧ wx.cell? ⟨W31.heap.size, 0, none⟩ = some (.int .i64 w1) ∧ wx.cell? ⟨W31.heap.size, 1, none⟩ = some (.int .i64 w2) ∧ wx.cell? ⟨W32.heap.size, 0, none⟩ = some (.int .i64 n) ∧ wx.cell? ⟨W32.heap.size, 1, none⟩ = some (.int .i64 1) ∧ Below w.heap.size w wx)
        case first =>
          rcases c19.out with ⟨e1, rfl⟩ | ⟨e1, e2, rfl⟩ | ⟨e1, e2, e3, rfl⟩ | ⟨e1, e2, e3, rfl⟩
          · skip
            have HC0 := Lib.hid (HXK.out)
            go_wp2_with fail
            refine (HC0.out _).mono ?_
            rintro e W34 ⟨rfl, hb34⟩
            have k551 : W34.cell? ⟨w.heap.size, 0, none⟩ = some (.int .i64 a) := kept1 k535 hb34
            have k552 : W34.cell? ⟨w.heap.size, 1, none⟩ = some (.int .i64 b) := kept1 k536 hb34
            have k553 : W34.cell? ⟨w.heap.size, 2, none⟩ = some (.int .i64 c) := kept1 k537 hb34
            have k554 : W34.cell? ⟨w.heap.size, 3, none⟩ = some (.int .i64 d) := kept1 k538 hb34
            have k555 : W34.cell? ⟨w.heap.size + 1, 0, none⟩ = some (.int .i64 e) := kept1 k539 hb34
            have k556 : W34.cell? ⟨w.heap.size + 1, 1, none⟩ = some (.int .i64 f) := kept1 k540 hb34
            have k557 : W34.cell? ⟨w.heap.size + 1, 2, none⟩ = some (.int .i64 g) := kept1 k541 hb34
            have k558 : W34.cell? ⟨w.heap.size + 1, 3, none⟩ = some (.int .i64 h) := kept1 k542 hb34
            have k559 : W34.cell? ⟨w.heap.size + 1 + 1, 0, none⟩ = some (.int .i64 i) := kept1 k543 hb34
            have k560 : W34.cell? ⟨w.heap.size + 1 + 1, 1, none⟩ = some (.int .i64 j) := kept1 k544 hb34
            have k561 : W34.cell? ⟨w.heap.size + 1 + 1 + 1, 0, none⟩ = some (.int .i64 k) := kept1 k545 hb34
            have k562 : W34.cell? ⟨w.heap.size + 1 + 1 + 1, 1, none⟩ = some (.int .i64 l) := kept1 k546 hb34
            have k563 : W34.cell? ⟨W31.heap.size, 0, none⟩ = some (.int .i64 w1) := kept1 k547 hb34
            have k564 : W34.cell? ⟨W31.heap.size, 1, none⟩ = some (.int .i64 w2) := kept1 k548 hb34
            have k565 : W34.cell? ⟨W32.heap.size, 0, none⟩ = some (.int .i64 n) := kept1 k549 hb34
            have k566 : W34.cell? ⟨W32.heap.size, 1, none⟩ = some (.int .i64 1) := kept1 k550 hb34
            have lk551 : w.heap.size < W34.heap.size := block_lt_of_cell k551
            have lk555 : w.heap.size + 1 < W34.heap.size := block_lt_of_cell k555
            have lk559 : w.heap.size + 1 + 1 < W34.heap.size := block_lt_of_cell k559
            have lk561 : w.heap.size + 1 + 1 + 1 < W34.heap.size := block_lt_of_cell k561
            have lk563 : W31.heap.size < W34.heap.size := block_lt_of_cell k563
            have lk565 : W32.heap.size < W34.heap.size := block_lt_of_cell k565
            have hv34 : Below w.heap.size w W34 := bstep0 hv33 hb34
            clear hb34 hv33 k535 k536 k537 k538 k539 k540 k541 k542 k543 k544 k545 k546 k547 k548 k549 k550 lk535 lk539 lk543 lk545 lk547 lk549
            go_wp2_with fail
            go_meet
            exact ⟨by first | rfl | (simp; done) | (simp; omega), k551, k552, k553, k554, k555, k556, k557, k558, k559, k560, k561, k562, k563, k564, k565, k566, hv34⟩
          · skip
            have HC0 := Lib.hid (HXK.out)
            go_wp2_with fail
            refine (HC0.out _).mono ?_
            rintro e W35 ⟨rfl, hb35⟩
            have k567 : W35.cell? ⟨w.heap.size, 0, none⟩ = some (.int .i64 a) := kept1 k535 hb35
            have k568 : W35.cell? ⟨w.heap.size, 1, none⟩ = some (.int .i64 b) := kept1 k536 hb35
            have k569 : W35.cell? ⟨w.heap.size, 2, none⟩ = some (.int .i64 c) := kept1 k537 hb35
            have k570 : W35.cell? ⟨w.heap.size, 3, none⟩ = some (.int .i64 d) := kept1 k538 hb35
            have k571 : W35.cell? ⟨w.heap.size + 1, 0, none⟩ = some (.int .i64 e) := kept1 k539 hb35
            have k572 : W35.cell? ⟨w.heap.size + 1, 1, none⟩ = some (.int .i64 f) := kept1 k540 hb35
            have k573 : W35.cell? ⟨w.heap.size + 1, 2, none⟩ = some (.int .i64 g) := kept1 k541 hb35
            have k574 : W35.cell? ⟨w.heap.size + 1, 3, none⟩ = some (.int .i64 h) := kept1 k542 hb35
            have k575 : W35.cell? ⟨w.heap.size + 1 + 1, 0, none⟩ = some (.int .i64 i) := kept1 k543 hb35
            have k576 : W35.cell? ⟨w.heap.size + 1 + 1, 1, none⟩ = some (.int .i64 j) := kept1 k544 hb35
            have k577 : W35.cell? ⟨w.heap.size + 1 + 1 + 1, 0, none⟩ = some (.int .i64 k) := kept1 k545 hb35
            have k578 : W35.cell? ⟨w.heap.size + 1 + 1 + 1, 1, none⟩ = some (.int .i64 l) := kept1 k546 hb35
            have k579 : W35.cell? ⟨W31.heap.size, 0, none⟩ = some (.int .i64 w1) := kept1 k547 hb35
            have k580 : W35.cell? ⟨W31.heap.size, 1, none⟩ = some (.int .i64 w2) := kept1 k548 hb35
            have k581 : W35.cell? ⟨W32.heap.size, 0, none⟩ = some (.int .i64 n) := kept1 k549 hb35
            have k582 : W35.cell? ⟨W32.heap.size, 1, none⟩ = some (.int .i64 1) := kept1 k550 hb35
            have lk567 : w.heap.size < W35.heap.size := block_lt_of_cell k567
            have lk571 : w.heap.size + 1 < W35.heap.size := block_lt_of_cell k571
            have lk575 : w.heap.size + 1 + 1 < W35.heap.size := block_lt_of_cell k575
            have lk577 : w.heap.size + 1 + 1 + 1 < W35.heap.size := block_lt_of_cell k577
            have lk579 : W31.heap.size < W35.heap.size := block_lt_of_cell k579
            have lk581 : W32.heap.size < W35.heap.size := block_lt_of_cell k581
            have hv35 : Below w.heap.size w W35 := bstep0 hv33 hb35
            clear hb35 hv33 k535 k536 k537 k538 k539 k540 k541 k542 k543 k544 k545 k546 k547 k548 k549 k550 lk535 lk539 lk543 lk545 lk547 lk549
            go_wp2_with fail
            go_meet
            exact ⟨by first | rfl | (simp; done) | (simp; omega), k567, k568, k569, k570, k571, k572, k573, k574, k575, k576, k577, k578, k579, k580, k581, k582, hv35⟩
          · skip
            have HC0 := Lib.hid (HXK.out)
            go_wp2_with fail
            refine (HC0.out _).mono ?_
            rintro e W36 ⟨rfl, hb36⟩
            have k583 : W36.cell? ⟨w.heap.size, 0, none⟩ = some (.int .i64 a) := kept1 k535 hb36
            have k584 : W36.cell? ⟨w.heap.size, 1, none⟩ = some (.int .i64 b) := kept1 k536 hb36
            have k585 : W36.cell? ⟨w.heap.size, 2, none⟩ = some (.int .i64 c) := kept1 k537 hb36
            have k586 : W36.cell? ⟨w.heap.size, 3, none⟩ = some (.int .i64 d) := kept1 k538 hb36
            have k587 : W36.cell? ⟨w.heap.size + 1, 0, none⟩ = some (.int .i64 e) := kept1 k539 hb36
            have k588 : W36.cell? ⟨w.heap.size + 1, 1, none⟩ = some (.int .i64 f) := kept1 k540 hb36
            have k589 : W36.cell? ⟨w.heap.size + 1, 2, none⟩ = some (.int .i64 g) := kept1 k541 hb36
            have k590 : W36.cell? ⟨w.heap.size + 1, 3, none⟩ = some (.int .i64 h) := kept1 k542 hb36
            have k591 : W36.cell? ⟨w.heap.size + 1 + 1, 0, none⟩ = some (.int .i64 i) := kept1 k543 hb36
            have k592 : W36.cell? ⟨w.heap.size + 1 + 1, 1, none⟩ = some (.int .i64 j) := kept1 k544 hb36
            have k593 : W36.cell? ⟨w.heap.size + 1 + 1 + 1, 0, none⟩ = some (.int .i64 k) := kept1 k545 hb36
            have k594 : W36.cell? ⟨w.heap.size + 1 + 1 + 1, 1, none⟩ = some (.int .i64 l) := kept1 k546 hb36
            have k595 : W36.cell? ⟨W31.heap.size, 0, none⟩ = some (.int .i64 w1) := kept1 k547 hb36
            have k596 : W36.cell? ⟨W31.heap.size, 1, none⟩ = some (.int .i64 w2) := kept1 k548 hb36
            have k597 : W36.cell? ⟨W32.heap.size, 0, none⟩ = some (.int .i64 n) := kept1 k549 hb36
            have k598 : W36.cell? ⟨W32.heap.size, 1, none⟩ = some (.int .i64 1) := kept1 k550 hb36
            have lk583 : w.heap.size < W36.heap.size := block_lt_of_cell k583
            have lk587 : w.heap.size + 1 < W36.heap.size := block_lt_of_cell k587
            have lk591 : w.heap.size + 1 + 1 < W36.heap.size := block_lt_of_cell k591
            have lk593 : w.heap.size + 1 + 1 + 1 < W36.heap.size := block_lt_of_cell k593
            have lk595 : W31.heap.size < W36.heap.size := block_lt_of_cell k595
            have lk597 : W32.heap.size < W36.heap.size := block_lt_of_cell k597
            have hv36 : Below w.heap.size w W36 := bstep0 hv33 hb36
            clear hb36 hv33 k535 k536 k537 k538 k539 k540 k541 k542 k543 k544 k545 k546 k547 k548 k549 k550 lk535 lk539 lk543 lk545 lk547 lk549
            go_wp2_with fail
            go_meet
            exact ⟨by first | rfl | (simp; done) | (simp; omega), k583, k584, k585, k586, k587, k588, k589, k590, k591, k592, k593, k594, k595, k596, k597, k598, hv36⟩
          · skip
            have HC0 := Lib.hid (HXK.out)
            go_wp2_with fail
            refine (HC0.out _).mono ?_
            rintro e W37 ⟨rfl, hb37⟩
            have k599 : W37.cell? ⟨w.heap.size, 0, none⟩ = some (.int .i64 a) := kept1 k535 hb37
            have k600 : W37.cell? ⟨w.heap.size, 1, none⟩ = some (.int .i64 b) := kept1 k536 hb37
            have k601 : W37.cell? ⟨w.heap.size, 2, none⟩ = some (.int .i64 c) := kept1 k537 hb37
            have k602 : W37.cell? ⟨w.heap.size, 3, none⟩ = some (.int .i64 d) := kept1 k538 hb37
            have k603 : W37.cell? ⟨w.heap.size + 1, 0, none⟩ = some (.int .i64 e) := kept1 k539 hb37
            have k604 : W37.cell? ⟨w.heap.size + 1, 1, none⟩ = some (.int .i64 f) := kept1 k540 hb37
            have k605 : W37.cell? ⟨w.heap.size + 1, 2, none⟩ = some (.int .i64 g) := kept1 k541 hb37
            have k606 : W37.cell? ⟨w.heap.size + 1, 3, none⟩ = some (.int .i64 h) := kept1 k542 hb37
            have k607 : W37.cell? ⟨w.heap.size + 1 + 1, 0, none⟩ = some (.int .i64 i) := kept1 k543 hb37
            have k608 : W37.cell? ⟨w.heap.size + 1 + 1, 1, none⟩ = some (.int .i64 j) := kept1 k544 hb37
            have k609 : W37.cell? ⟨w.heap.size + 1 + 1 + 1, 0, none⟩ = some (.int .i64 k) := kept1 k545 hb37
            have k610 : W37.cell? ⟨w.heap.size + 1 + 1 + 1, 1, none⟩ = some (.int .i64 l) := kept1 k546 hb37
            have k611 : W37.cell? ⟨W31.heap.size, 0, none⟩ = some (.int .i64 w1) := kept1 k547 hb37
            have k612 : W37.cell? ⟨W31.heap.size, 1, none⟩ = some (.int .i64 w2) := kept1 k548 hb37
            have k613 : W37.cell? ⟨W32.heap.size, 0, none⟩ = some (.int .i64 n) := kept1 k549 hb37
            have k614 : W37.cell? ⟨W32.heap.size, 1, none⟩ = some (.int .i64 1) := kept1 k550 hb37
            have lk599 : w.heap.size < W37.heap.size := block_lt_of_cell k599
            have lk603 : w.heap.size + 1 < W37.heap.size := block_lt_of_cell k603
            have lk607 : w.heap.size + 1 + 1 < W37.heap.size := block_lt_of_cell k607
            have lk609 : w.heap.size + 1 + 1 + 1 < W37.heap.size := block_lt_of_cell k609
            have lk611 : W31.heap.size < W37.heap.size := block_lt_of_cell k611
            have lk613 : W32.heap.size < W37.heap.size := block_lt_of_cell k613
            have hv37 : Below w.heap.size w W37 := bstep0 hv33 hb37
            clear hb37 hv33 k535 k536 k537 k538 k539 k540 k541 k542 k543 k544 k545 k546 k547 k548 k549 k550 lk535 lk539 lk543 lk545 lk547 lk549
            go_wp2_with fail
            go_meet
            exact ⟨by first | rfl | (simp; done) | (simp; omega), k599, k600, k601, k602, k603, k604, k605, k606, k607, k608, k609, k610, k611, k612, k613, k614, hv37⟩
        case rest =>
          generalize wc = V38 at hcut ⊢
          clear wc
          obtain ⟨rfl, k615, k616, k617, k618, k619, k620, k621, k622, k623, k624, k625, k626, k627, k628, k629, k630, hv38⟩ := hcut
          clear hv33 k535 k536 k537 k538 k539 k540 k541 k542 k543 k544 k545 k546 k547 k548 k549 k550 lk535 lk539 lk543 lk545 lk547 lk549
          have lk615 : w.heap.size < V38.heap.size := block_lt_of_cell k615
          have lk619 : w.heap.size + 1 < V38.heap.size := block_lt_of_cell k619
          have lk623 : w.heap.size + 1 + 1 < V38.heap.size := block_lt_of_cell k623
          have lk625 : w.heap.size + 1 + 1 + 1 < V38.heap.size := block_lt_of_cell k625
          have lk627 : W31.heap.size < V38.heap.size := block_lt_of_cell k627
          have lk629 : W32.heap.size < V38.heap.size := block_lt_of_cell k629
          clear k627 k628 lk627
          go_wp2_with fail
          refine (HZ.out _).mono ?_
          rintro e W39 ⟨rfl, hb39⟩
          have k631 : W39.cell? ⟨w.heap.size, 0, none⟩ = some (.int .i64 a) := kept1 k615 hb39
          have k632 : W39.cell? ⟨w.heap.size, 1, none⟩ = some (.int .i64 b) := kept1 k616 hb39
          have k633 : W39.cell? ⟨w.heap.size, 2, none⟩ = some (.int .i64 c) := kept1 k617 hb39
          have k634 : W39.cell? ⟨w.heap.size, 3, none⟩ = some (.int .i64 d) := kept1 k618 hb39
          have k635 : W39.cell? ⟨w.heap.size + 1, 0, none⟩ = some (.int .i64 e) := kept1 k619 hb39
          have k636 : W39.cell? ⟨w.heap.size + 1, 1, none⟩ = some (.int .i64 f) := kept1 k620 hb39
          have k637 : W39.cell? ⟨w.heap.size + 1, 2, none⟩ = some (.int .i64 g) := kept1 k621 hb39
          have k638 : W39.cell? ⟨w.heap.size + 1, 3, none⟩ = some (.int .i64 h) := kept1 k622 hb39
          have k639 : W39.cell? ⟨w.heap.size + 1 + 1, 0, none⟩ = some (.int .i64 i) := kept1 k623 hb39
          have k640 : W39.cell? ⟨w.heap.size + 1 + 1, 1, none⟩ = some (.int .i64 j) := kept1 k624 hb39
          have k641 : W39.cell? ⟨w.heap.size + 1 + 1 + 1, 0, none⟩ = some (.int .i64 k) := kept1 k625 hb39
          have k642 : W39.cell? ⟨w.heap.size + 1 + 1 + 1, 1, none⟩ = some (.int .i64 l) := kept1 k626 hb39
          have k643 : W39.cell? ⟨W32.heap.size, 0, none⟩ = some (.int .i64 n) := kept1 k629 hb39
          have k644 : W39.cell? ⟨W32.heap.size, 1, none⟩ = some (.int .i64 1) := kept1 k630 hb39
          have lk631 : w.heap.size < W39.heap.size := block_lt_of_cell k631
          have lk635 : w.heap.size + 1 < W39.heap.size := block_lt_of_cell k635
          have lk639 : w.heap.size + 1 + 1 < W39.heap.size := block_lt_of_cell k639
          have lk641 : w.heap.size + 1 + 1 + 1 < W39.heap.size := block_lt_of_cell k641
          have lk643 : W32.heap.size < W39.heap.size := block_lt_of_cell k643
          have hv39 : Below w.heap.size w W39 := bstep0 hv38 hb39
          clear hb39 hv38 k615 k616 k617 k618 k619 k620 k621 k622 k623 k624 k625 k626 k629 k630 lk615 lk619 lk623 lk625 lk629
          go_wp2_with fail
          refine (HR.out _).mono ?_
          rintro e W40 ⟨rfl, hb40⟩
          have k645 : W40.cell? ⟨w.heap.size, 0, none⟩ = some (.int .i64 a) := kept_a1 k631 hb40
          have k646 : W40.cell? ⟨w.heap.size, 1, none⟩ = some (.int .i64 b) := kept_a1 k632 hb40
          have k647 : W40.cell? ⟨w.heap.size, 2, none⟩ = some (.int .i64 c) := kept_a1 k633 hb40
          have k648 : W40.cell? ⟨w.heap.size, 3, none⟩ = some (.int .i64 d) := kept_a1 k634 hb40
          have k649 : W40.cell? ⟨w.heap.size + 1, 0, none⟩ = some (.int .i64 e) := kept_a1 k635 hb40
          have k650 : W40.cell? ⟨w.heap.size + 1, 1, none⟩ = some (.int .i64 f) := kept_a1 k636 hb40
          have k651 : W40.cell? ⟨w.heap.size + 1, 2, none⟩ = some (.int .i64 g) := kept_a1 k637 hb40
          have k652 : W40.cell? ⟨w.heap.size + 1, 3, none⟩ = some (.int .i64 h) := kept_a1 k638 hb40
          have k653 : W40.cell? ⟨w.heap.size + 1 + 1, 0, none⟩ = some (.int .i64 i) := kept_a1 k639 hb40
          have k654 : W40.cell? ⟨w.heap.size + 1 + 1, 1, none⟩ = some (.int .i64 j) := kept_a1 k640 hb40
          have k655 : W40.cell? ⟨w.heap.size + 1 + 1 + 1, 0, none⟩ = some (.int .i64 k) := kept_a1 k641 hb40
          have k656 : W40.cell? ⟨w.heap.size + 1 + 1 + 1, 1, none⟩ = some (.int .i64 l) := kept_a1 k642 hb40
          have k657 : W40.cell? ⟨W32.heap.size, 0, none⟩ = some (.int .i64 n) := kept_a1 k643 hb40
          have k658 : W40.cell? ⟨W32.heap.size, 1, none⟩ = some (.int .i64 1) := kept_a1 k644 hb40
          have k659 : W40.cell? ⟨W39.heap.size, 0, none⟩ = some (.int .i64 z1) := kept1 (by simp [go_sem]) hb40
          have k660 : W40.cell? ⟨W39.heap.size, 1, none⟩ = some (.int .i64 z2) := kept1 (by simp [go_sem]) hb40
          have lk645 : w.heap.size < W40.heap.size := block_lt_of_cell k645
          have lk649 : w.heap.size + 1 < W40.heap.size := block_lt_of_cell k649
          have lk653 : w.heap.size + 1 + 1 < W40.heap.size := block_lt_of_cell k653
          have lk655 : w.heap.size + 1 + 1 + 1 < W40.heap.size := block_lt_of_cell k655
          have lk657 : W32.heap.size < W40.heap.size := block_lt_of_cell k657
          have lk659 : W39.heap.size < W40.heap.size := block_lt_of_cell k659
          have hv40 : Below w.heap.size w W40 := bstep1 hv39 hb40
          clear hb40 hv39 k631 k632 k633 k634 k635 k636 k637 k638 k639 k640 k641 k642 k643 k644 lk631 lk635 lk639 lk641 lk643
          go_upto_region 24 with fail
          have k661 : (W40.alloc (Obj.cells #[.int .i64 r1, .int .i64 r2] 23)).cell? ⟨w.heap.size, 0, none⟩ = some (.int .i64 a) := (cell_alloc k645 _)
          have k662 : (W40.alloc (Obj.cells #[.int .i64 r1, .int .i64 r2] 23)).cell? ⟨w.heap.size, 1, none⟩ = some (.int .i64 b) := (cell_alloc k646 _)
          have k663 : (W40.alloc (Obj.cells #[.int .i64 r1, .int .i64 r2] 23)).cell? ⟨w.heap.size, 2, none⟩ = some (.int .i64 c) := (cell_alloc k647 _)
          have k664 : (W40.alloc (Obj.cells #[.int .i64 r1, .int .i64 r2] 23)).cell? ⟨w.heap.size, 3, none⟩ = some (.int .i64 d) := (cell_alloc k648 _)
          have k665 : (W40.alloc (Obj.cells #[.int .i64 r1, .int .i64 r2] 23)).cell? ⟨w.heap.size + 1, 0, none⟩ = some (.int .i64 e) := (cell_alloc k649 _)
          have k666 : (W40.alloc (Obj.cells #[.int .i64 r1, .int .i64 r2] 23)).cell? ⟨w.heap.size + 1, 1, none⟩ = some (.int .i64 f) := (cell_alloc k650 _)
          have k667 : (W40.alloc (Obj.cells #[.int .i64 r1, .int .i64 r2] 23)).cell? ⟨w.heap.size + 1, 2, none⟩ = some (.int .i64 g) := (cell_alloc k651 _)
          have k668 : (W40.alloc (Obj.cells #[.int .i64 r1, .int .i64 r2] 23)).cell? ⟨w.heap.size + 1, 3, none⟩ = some (.int .i64 h) := (cell_alloc k652 _)
          have k669 : (W40.alloc (Obj.cells #[.int .i64 r1, .int .i64 r2] 23)).cell? ⟨w.heap.size + 1 + 1, 0, none⟩ = some (.int .i64 i) := (cell_alloc k653 _)
          have k670 : (W40.alloc (Obj.cells #[.int .i64 r1, .int .i64 r2] 23)).cell? ⟨w.heap.size + 1 + 1, 1, none⟩ = some (.int .i64 j) := (cell_alloc k654 _)
          have k671 : (W40.alloc (Obj.cells #[.int .i64 r1, .int .i64 r2] 23)).cell? ⟨w.heap.size + 1 + 1 + 1, 0, none⟩ = some (.int .i64 k) := (cell_alloc k655 _)
          have k672 : (W40.alloc (Obj.cells #[.int .i64 r1, .int .i64 r2] 23)).cell? ⟨w.heap.size + 1 + 1 + 1, 1, none⟩ = some (.int .i64 l) := (cell_alloc k656 _)
          have k673 : (W40.alloc (Obj.cells #[.int .i64 r1, .int .i64 r2] 23)).cell? ⟨W32.heap.size, 0, none⟩ = some (.int .i64 n) := (cell_alloc k657 _)
          have k674 : (W40.alloc (Obj.cells #[.int .i64 r1, .int .i64 r2] 23)).cell? ⟨W32.heap.size, 1, none⟩ = some (.int .i64 1) := (cell_alloc k658 _)
          have k675 : (W40.alloc (Obj.cells #[.int .i64 r1, .int .i64 r2] 23)).cell? ⟨W39.heap.size, 0, none⟩ = some (.int .i64 z1) := (cell_alloc k659 _)
          have k676 : (W40.alloc (Obj.cells #[.int .i64 r1, .int .i64 r2] 23)).cell? ⟨W39.heap.size, 1, none⟩ = some (.int .i64 z2) := (cell_alloc k660 _)
          have k677 : (W40.alloc (Obj.cells #[.int .i64 r1, .int .i64 r2] 23)).cell? ⟨W40.heap.size, 0, none⟩ = some (.int .i64 r1) := by simp [go_sem]
          have k678 : (W40.alloc (Obj.cells #[.int .i64 r1, .int .i64 r2] 23)).cell? ⟨W40.heap.size, 1, none⟩ = some (.int .i64 r2) := by simp [go_sem]
          have lk661 : w.heap.size < (W40.alloc (Obj.cells #[.int .i64 r1, .int .i64 r2] 23)).heap.size := block_lt_of_cell k661
          have lk665 : w.heap.size + 1 < (W40.alloc (Obj.cells #[.int .i64 r1, .int .i64 r2] 23)).heap.size := block_lt_of_cell k665
          have lk669 : w.heap.size + 1 + 1 < (W40.alloc (Obj.cells #[.int .i64 r1, .int .i64 r2] 23)).heap.size := block_lt_of_cell k669
          have lk671 : w.heap.size + 1 + 1 + 1 < (W40.alloc (Obj.cells #[.int .i64 r1, .int .i64 r2] 23)).heap.size := block_lt_of_cell k671
          have lk673 : W32.heap.size < (W40.alloc (Obj.cells #[.int .i64 r1, .int .i64 r2] 23)).heap.size := block_lt_of_cell k673
          have lk675 : W39.heap.size < (W40.alloc (Obj.cells #[.int .i64 r1, .int .i64 r2] 23)).heap.size := block_lt_of_cell k675
          have lk677 : W40.heap.size < (W40.alloc (Obj.cells #[.int .i64 r1, .int .i64 r2] 23)).heap.size := block_lt_of_cell k677
          have hv41 : Below w.heap.size w (W40.alloc (Obj.cells #[.int .i64 r1, .int .i64 r2] 23)) := (below_alloc hv40 _)
          clear hv40 k645 k646 k647 k648 k649 k650 k651 k652 k653 k654 k655 k656 k657 k658 k659 k660 lk645 lk649 lk653 lk655 lk657 lk659
          generalize (W40.alloc (Obj.cells #[.int .i64 r1, .int .i64 r2] 23)) = X41 at *
          have hTX : Hid (Tab X41.drew.heap.size X41.drew) := Lib.hid (Lib.tabBelow_of_tabIs (hT.out.on hv41.drew).here)
          go_cut [212] from 186 to 212 (fun s212 wx => s212 = .bool false ∧ wx.cell? ⟨w.heap.size, 0, none⟩ = some (.int .i64 a) ∧ wx.cell? ⟨w.heap.size, 1, none⟩ = some (.int .i64 b) ∧ wx.cell? ⟨w.heap.size, 2, none⟩ = some (.int .i64 c) ∧ wx.cell? ⟨w.heap.size, 3, none⟩ = some (.int .i64 d) ∧ wx.cell? ⟨w.heap.size + 1, 0, none⟩ = some (.int .i64 e) ∧ wx.cell? ⟨w.heap.size + 1, 1, none⟩ = some (.int .i64 f) ∧ wx.cell? ⟨w.heap.size + 1, 2, none⟩ = some (.int .i64 g) ∧ wx.cell? ⟨w.heap.size + 1, 3, none⟩ = some (.int .i64 h) ∧ wx.cell? ⟨w.heap.size + 1 + 1, 0, none⟩ = some (.int .i64 i) ∧ wx.cell? ⟨w.heap.size + 1 + 1, 1, none⟩ = some (.int .i64 j) ∧ wx.cell? ⟨w.heap.size + 1 + 1 + 1, 0, none⟩ = some (.int .i64 k) ∧ wx.cell? ⟨w.heap.size + 1 + 1 + 1, 1, none⟩ = some (.int .i64 l) ∧ wx.cell? ⟨W32.heap.size, 0, none⟩ = some (.int .i64 n) ∧ wx.cell? ⟨W32.heap.size, 1, none⟩ = some (.int .i64 1) ∧ wx.cell? ⟨W39.heap.size, 0, none⟩ = some (.int .i64 z1) ∧ wx.cell? ⟨W39.heap.size, 1, none⟩ = some (.int .i64 z2) ∧ wx.cell? ⟨W40.heap.size, 0, none⟩ = some (.int .i64 r1) ∧ wx.cell? ⟨W40.heap.size, 1, none⟩ = some (.int .i64 r2) ∧ Below w.heap.size w wx)
          case first =>
            rcases c24.out with rfl | rfl
            · skip
              go_wp2_with fail
              go_meet
              exact ⟨by first | rfl | (simp; done) | (simp; omega), k661, k662, k663, k664, k665, k666, k667, k668, k669, k670, k671, k672, k673, k674, k675, k676, k677, k678, hv41⟩
            · skip
              go_wp2_with fail
              go_meet
              exact ⟨by first | rfl | (simp; done) | (simp; omega), k661, k662, k663, k664, k665, k666, k667, k668, k669, k670, k671, k672, k673, k674, k675, k676, k677, k678, hv41⟩
          case rest =>
            generalize wc = V42 at hcut ⊢
            clear wc
            obtain ⟨rfl, k679, k680, k681, k682, k683, k684, k685, k686, k687, k688, k689, k690, k691, k692, k693, k694, k695, k696, hv42⟩ := hcut
            clear hv41 k661 k662 k663 k664 k665 k666 k667 k668 k669 k670 k671 k672 k673 k674 k675 k676 k677 k678 lk661 lk665 lk669 lk671 lk673 lk675 lk677
            have lk679 : w.heap.size < V42.heap.size := block_lt_of_cell k679
            have lk683 : w.heap.size + 1 < V42.heap.size := block_lt_of_cell k683
            have lk687 : w.heap.size + 1 + 1 < V42.heap.size := block_lt_of_cell k687
            have lk689 : w.heap.size + 1 + 1 + 1 < V42.heap.size := block_lt_of_cell k689
            have lk691 : W32.heap.size < V42.heap.size := block_lt_of_cell k691
            have lk693 : W39.heap.size < V42.heap.size := block_lt_of_cell k693
            have lk695 : W40.heap.size < V42.heap.size := block_lt_of_cell k695
            go_wp2_with fail
            refine (HF.out _).mono ?_
            rintro e W43 ⟨rfl, hb43⟩
            have k697 : W43.cell? ⟨w.heap.size, 0, none⟩ = some (.int .i64 a) := kept1 k679 hb43
            have k698 : W43.cell? ⟨w.heap.size, 1, none⟩ = some (.int .i64 b) := kept1 k680 hb43
            have k699 : W43.cell? ⟨w.heap.size, 2, none⟩ = some (.int .i64 c) := kept1 k681 hb43
            have k700 : W43.cell? ⟨w.heap.size, 3, none⟩ = some (.int .i64 d) := kept1 k682 hb43
            have k701 : W43.cell? ⟨w.heap.size + 1, 0, none⟩ = some (.int .i64 e) := kept1 k683 hb43
            have k702 : W43.cell? ⟨w.heap.size + 1, 1, none⟩ = some (.int .i64 f) := kept1 k684 hb43
            have k703 : W43.cell? ⟨w.heap.size + 1, 2, none⟩ = some (.int .i64 g) := kept1 k685 hb43
            have k704 : W43.cell? ⟨w.heap.size + 1, 3, none⟩ = some (.int .i64 h) := kept1 k686 hb43
            have k705 : W43.cell? ⟨w.heap.size + 1 + 1, 0, none⟩ = some (.int .i64 i) := kept1 k687 hb43
            have k706 : W43.cell? ⟨w.heap.size + 1 + 1, 1, none⟩ = some (.int .i64 j) := kept1 k688 hb43
            have k707 : W43.cell? ⟨w.heap.size + 1 + 1 + 1, 0, none⟩ = some (.int .i64 k) := kept1 k689 hb43
            have k708 : W43.cell? ⟨w.heap.size + 1 + 1 + 1, 1, none⟩ = some (.int .i64 l) := kept1 k690 hb43
            have k709 : W43.cell? ⟨W32.heap.size, 0, none⟩ = some (.int .i64 n) := kept1 k691 hb43
            have k710 : W43.cell? ⟨W32.heap.size, 1, none⟩ = some (.int .i64 1) := kept1 k692 hb43
            have k711 : W43.cell? ⟨W39.heap.size, 0, none⟩ = some (.int .i64 z1) := kept1 k693 hb43
            have k712 : W43.cell? ⟨W39.heap.size, 1, none⟩ = some (.int .i64 z2) := kept1 k694 hb43
            have k713 : W43.cell? ⟨W40.heap.size, 0, none⟩ = some (.int .i64 r1) := kept1 k695 hb43
            have k714 : W43.cell? ⟨W40.heap.size, 1, none⟩ = some (.int .i64 r2) := kept1 k696 hb43
            have lk697 : w.heap.size < W43.heap.size := block_lt_of_cell k697
            have lk701 : w.heap.size + 1 < W43.heap.size := block_lt_of_cell k701
            have lk705 : w.heap.size + 1 + 1 < W43.heap.size := block_lt_of_cell k705
            have lk707 : w.heap.size + 1 + 1 + 1 < W43.heap.size := block_lt_of_cell k707
            have lk709 : W32.heap.size < W43.heap.size := block_lt_of_cell k709
            have lk711 : W39.heap.size < W43.heap.size := block_lt_of_cell k711
            have lk713 : W40.heap.size < W43.heap.size := block_lt_of_cell k713
            have hv43 : Below w.heap.size w W43 := bstep0 hv42 hb43
            clear hb43 hv42 k679 k680 k681 k682 k683 k684 k685 k686 k687 k688 k689 k690 k691 k692 k693 k694 k695 k696 lk679 lk683 lk687 lk689 lk691 lk693 lk695
            go_wp2_with fail
            refine (HC.out _).mono ?_
            rintro e W44 ⟨rfl, hb44⟩
            have k715 : W44.cell? ⟨w.heap.size, 0, none⟩ = some (.int .i64 a) := kept1 k697 hb44
            have k716 : W44.cell? ⟨w.heap.size, 1, none⟩ = some (.int .i64 b) := kept1 k698 hb44
            have k717 : W44.cell? ⟨w.heap.size, 2, none⟩ = some (.int .i64 c) := kept1 k699 hb44
            have k718 : W44.cell? ⟨w.heap.size, 3, none⟩ = some (.int .i64 d) := kept1 k700 hb44
            have k719 : W44.cell? ⟨w.heap.size + 1, 0, none⟩ = some (.int .i64 e) := kept1 k701 hb44
            have k720 : W44.cell? ⟨w.heap.size + 1, 1, none⟩ = some (.int .i64 f) := kept1 k702 hb44
            have k721 : W44.cell? ⟨w.heap.size + 1, 2, none⟩ = some (.int .i64 g) := kept1 k703 hb44
            have k722 : W44.cell? ⟨w.heap.size + 1, 3, none⟩ = some (.int .i64 h) := kept1 k704 hb44
            have k723 : W44.cell? ⟨w.heap.size + 1 + 1, 0, none⟩ = some (.int .i64 i) := kept1 k705 hb44
            have k724 : W44.cell? ⟨w.heap.size + 1 + 1, 1, none⟩ = some (.int .i64 j) := kept1 k706 hb44
            have k725 : W44.cell? ⟨w.heap.size + 1 + 1 + 1, 0, none⟩ = some (.int .i64 k) := kept1 k707 hb44
            have k726 : W44.cell? ⟨w.heap.size + 1 + 1 + 1, 1, none⟩ = some (.int .i64 l) := kept1 k708 hb44
            have k727 : W44.cell? ⟨W32.heap.size, 0, none⟩ = some (.int .i64 n) := kept1 k709 hb44
            have k728 : W44.cell? ⟨W32.heap.size, 1, none⟩ = some (.int .i64 1) := kept1 k710 hb44
            have k729 : W44.cell? ⟨W39.heap.size, 0, none⟩ = some (.int .i64 z1) := kept1 k711 hb44
            have k730 : W44.cell? ⟨W39.heap.size, 1, none⟩ = some (.int .i64 z2) := kept1 k712 hb44
            have k731 : W44.cell? ⟨W40.heap.size, 0, none⟩ = some (.int .i64 r1) := kept1 k713 hb44
            have k732 : W44.cell? ⟨W40.heap.size, 1, none⟩ = some (.int .i64 r2) := kept1 k714 hb44
            have lk715 : w.heap.size < W44.heap.size := block_lt_of_cell k715
            have lk719 : w.heap.size + 1 < W44.heap.size := block_lt_of_cell k719
            have lk723 : w.heap.size + 1 + 1 < W44.heap.size := block_lt_of_cell k723
            have lk725 : w.heap.size + 1 + 1 + 1 < W44.heap.size := block_lt_of_cell k725
            have lk727 : W32.heap.size < W44.heap.size := block_lt_of_cell k727
            have lk729 : W39.heap.size < W44.heap.size := block_lt_of_cell k729
            have lk731 : W40.heap.size < W44.heap.size := block_lt_of_cell k731
            have hv44 : Below w.heap.size w W44 := bstep0 hv43 hb44
            clear hb44 hv43 k697 k698 k699 k700 k701 k702 k703 k704 k705 k706 k707 k708 k709 k710 k711 k712 k713 k714 lk697 lk701 lk705 lk707 lk709 lk711 lk713
            go_wp2_with fail
            refine (sanity_tab hT _ hv44).mono ?_
            rintro e W45 ⟨rfl, hb45⟩
            have k733 : W45.cell? ⟨w.heap.size, 0, none⟩ = some (.int .i64 a) := kept1 k715 hb45
            have k734 : W45.cell? ⟨w.heap.size, 1, none⟩ = some (.int .i64 b) := kept1 k716 hb45
            have k735 : W45.cell? ⟨w.heap.size, 2, none⟩ = some (.int .i64 c) := kept1 k717 hb45
            have k736 : W45.cell? ⟨w.heap.size, 3, none⟩ = some (.int .i64 d) := kept1 k718 hb45
            have k737 : W45.cell? ⟨w.heap.size + 1, 0, none⟩ = some (.int .i64 e) := kept1 k719 hb45
            have k738 : W45.cell? ⟨w.heap.size + 1, 1, none⟩ = some (.int .i64 f) := kept1 k720 hb45
            have k739 : W45.cell? ⟨w.heap.size + 1, 2, none⟩ = some (.int .i64 g) := kept1 k721 hb45
            have k740 : W45.cell? ⟨w.heap.size + 1, 3, none⟩ = some (.int .i64 h) := kept1 k722 hb45
            have k741 : W45.cell? ⟨w.heap.size + 1 + 1, 0, none⟩ = some (.int .i64 i) := kept1 k723 hb45
            have k742 : W45.cell? ⟨w.heap.size + 1 + 1, 1, none⟩ = some (.int .i64 j) := kept1 k724 hb45
            have k743 : W45.cell? ⟨w.heap.size + 1 + 1 + 1, 0, none⟩ = some (.int .i64 k) := kept1 k725 hb45
            have k744 : W45.cell? ⟨w.heap.size + 1 + 1 + 1, 1, none⟩ = some (.int .i64 l) := kept1 k726 hb45
            have k745 : W45.cell? ⟨W32.heap.size, 0, none⟩ = some (.int .i64 n) := kept1 k727 hb45
            have k746 : W45.cell? ⟨W32.heap.size, 1, none⟩ = some (.int .i64 1) := kept1 k728 hb45
            have k747 : W45.cell? ⟨W39.heap.size, 0, none⟩ = some (.int .i64 z1) := kept1 k729 hb45
            have k748 : W45.cell? ⟨W39.heap.size, 1, none⟩ = some (.int .i64 z2) := kept1 k730 hb45
            have k749 : W45.cell? ⟨W40.heap.size, 0, none⟩ = some (.int .i64 r1) := kept1 k731 hb45
            have k750 : W45.cell? ⟨W40.heap.size, 1, none⟩ = some (.int .i64 r2) := kept1 k732 hb45
            have lk733 : w.heap.size < W45.heap.size := block_lt_of_cell k733
            have lk737 : w.heap.size + 1 < W45.heap.size := block_lt_of_cell k737
            have lk741 : w.heap.size + 1 + 1 < W45.heap.size := block_lt_of_cell k741
            have lk743 : w.heap.size + 1 + 1 + 1 < W45.heap.size := block_lt_of_cell k743
            have lk745 : W32.heap.size < W45.heap.size := block_lt_of_cell k745
            have lk747 : W39.heap.size < W45.heap.size := block_lt_of_cell k747
            have lk749 : W40.heap.size < W45.heap.size := block_lt_of_cell k749
            have hv45 : Below w.heap.size w W45 := bstep0 hv44 hb45
            clear hb45 hv44 k715 k716 k717 k718 k719 k720 k721 k722 k723 k724 k725 k726 k727 k728 k729 k730 k731 k732 lk715 lk719 lk723 lk725 lk727 lk729 lk731
            go_wp2
            go_ret
            exact ⟨by first | rfl | simp, (by repeat (first | with_reducible exact Below.refl _ _ | with_reducible assumption | refine below_drewN ?_ _ | refine Below.drew ?_ | refine Below.alloc ?_ (by first | (simp; done) | (simp; omega) | omega) _ | refine Below.setCell ?_ (by first | (simp; done) | (simp; omega) | omega) _ | refine Below.trans ?_ (Below.mono (by assumption) (by first | (simp; done) | (simp; omega) | omega))))⟩

end Go.Proofs.YtpbomeoonknifaaDoor
