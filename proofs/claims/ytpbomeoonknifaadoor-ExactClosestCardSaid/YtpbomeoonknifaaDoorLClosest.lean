/- The law ExactClosest: it returns true. -/
import Derived.Test.YtpbomeoonknifaaDoorSz
import Derived.Test.YtpbomeoonknifaaDoorW
import Derived.Test.YtpbomeoonknifaaDoorNe
import Derived.Test.YtpbomeoonknifaaDoorRb
namespace Go.Proofs.YtpbomeoonknifaaDoor
open Go.RowKit Go.Shelf

set_option maxRecDepth 100000 in
set_option maxHeartbeats 2000000 in
theorem closest_out0 (a b c d m k : Int)  (KW : Hid (∀ W : World, Calls Tryd.prog 31 #[.agg #[.int .i64 a, .int .i64 b], .agg #[.int .i64 c, .int .i64 d]] W fun e w' => e = .returned (.bool true) ∧ Below W.heap.size W w')) (w : World) (hT : Hid (Tab w.heap.size w)) :
    Calls Tryd.prog 15 #[.agg #[.int .i64 a, .int .i64 b], .agg #[.int .i64 c, .int .i64 d], .int .i64 m, .int .i64 k] w fun e w' => e = .returned (.bool true) ∧ Below w.heap.size w w' := by
  go_enter Tryd.func15, Tryd.ntmps15
  go_wp2_with fail
  refine (KW.out _).mono ?_
  rintro e W1 ⟨rfl, hb1⟩
  have k1 : W1.cell? ⟨w.heap.size, 0, none⟩ = some (.int .i64 a) := kept1 (by simp [go_sem]) hb1
  have k2 : W1.cell? ⟨w.heap.size, 1, none⟩ = some (.int .i64 b) := kept1 (by simp [go_sem]) hb1
  have k3 : W1.cell? ⟨w.heap.size + 1, 0, none⟩ = some (.int .i64 c) := kept1 (by simp [go_sem]) hb1
  have k4 : W1.cell? ⟨w.heap.size + 1, 1, none⟩ = some (.int .i64 d) := kept1 (by simp [go_sem]) hb1
  have lk1 : w.heap.size < W1.heap.size := block_lt_of_cell k1
  have lk3 : w.heap.size + 1 < W1.heap.size := block_lt_of_cell k3
  have hv1 : Below w.heap.size w W1 := bstep2 (Below.refl _ _) hb1
  clear hb1  
  go_wp2_with fail
  refine (sanity_tab hT _ hv1).mono ?_
  rintro e W2 ⟨rfl, hb2⟩
  have k5 : W2.cell? ⟨w.heap.size, 0, none⟩ = some (.int .i64 a) := kept1 k1 hb2
  have k6 : W2.cell? ⟨w.heap.size, 1, none⟩ = some (.int .i64 b) := kept1 k2 hb2
  have k7 : W2.cell? ⟨w.heap.size + 1, 0, none⟩ = some (.int .i64 c) := kept1 k3 hb2
  have k8 : W2.cell? ⟨w.heap.size + 1, 1, none⟩ = some (.int .i64 d) := kept1 k4 hb2
  have lk5 : w.heap.size < W2.heap.size := block_lt_of_cell k5
  have lk7 : w.heap.size + 1 < W2.heap.size := block_lt_of_cell k7
  have hv2 : Below w.heap.size w W2 := bstep0 hv1 hb2
  clear hb2 hv1 k1 k2 k3 k4 lk1 lk3
  go_wp2
  go_ret
  exact ⟨by first | rfl | simp, (by repeat (first | with_reducible exact Below.refl _ _ | with_reducible assumption | refine below_drewN ?_ _ | refine Below.drew ?_ | refine Below.alloc ?_ (by first | (simp; done) | (simp; omega) | omega) _ | refine Below.setCell ?_ (by first | (simp; done) | (simp; omega) | omega) _ | refine Below.trans ?_ (Below.mono (by assumption) (by first | (simp; done) | (simp; omega) | omega))))⟩

set_option maxRecDepth 100000 in
set_option maxHeartbeats 2000000 in
theorem closest_out1 (a b c d m k : Int) (h1 : m < 1) (KW : Hid (∀ W : World, Calls Tryd.prog 31 #[.agg #[.int .i64 a, .int .i64 b], .agg #[.int .i64 c, .int .i64 d]] W fun e w' => e = .returned (.bool false) ∧ Below W.heap.size W w')) (w : World) (hT : Hid (Tab w.heap.size w)) :
    Calls Tryd.prog 15 #[.agg #[.int .i64 a, .int .i64 b], .agg #[.int .i64 c, .int .i64 d], .int .i64 m, .int .i64 k] w fun e w' => e = .returned (.bool true) ∧ Below w.heap.size w w' := by
  go_enter Tryd.func15, Tryd.ntmps15
  go_wp2_with fail
  refine (KW.out _).mono ?_
  rintro e W1 ⟨rfl, hb1⟩
  have k1 : W1.cell? ⟨w.heap.size, 0, none⟩ = some (.int .i64 a) := kept1 (by simp [go_sem]) hb1
  have k2 : W1.cell? ⟨w.heap.size, 1, none⟩ = some (.int .i64 b) := kept1 (by simp [go_sem]) hb1
  have k3 : W1.cell? ⟨w.heap.size + 1, 0, none⟩ = some (.int .i64 c) := kept1 (by simp [go_sem]) hb1
  have k4 : W1.cell? ⟨w.heap.size + 1, 1, none⟩ = some (.int .i64 d) := kept1 (by simp [go_sem]) hb1
  have lk1 : w.heap.size < W1.heap.size := block_lt_of_cell k1
  have lk3 : w.heap.size + 1 < W1.heap.size := block_lt_of_cell k3
  have hv1 : Below w.heap.size w W1 := bstep2 (Below.refl _ _) hb1
  clear hb1  
  go_wp2_with fail
  refine (sanity_tab hT _ hv1).mono ?_
  rintro e W2 ⟨rfl, hb2⟩
  have k5 : W2.cell? ⟨w.heap.size, 0, none⟩ = some (.int .i64 a) := kept1 k1 hb2
  have k6 : W2.cell? ⟨w.heap.size, 1, none⟩ = some (.int .i64 b) := kept1 k2 hb2
  have k7 : W2.cell? ⟨w.heap.size + 1, 0, none⟩ = some (.int .i64 c) := kept1 k3 hb2
  have k8 : W2.cell? ⟨w.heap.size + 1, 1, none⟩ = some (.int .i64 d) := kept1 k4 hb2
  have lk5 : w.heap.size < W2.heap.size := block_lt_of_cell k5
  have lk7 : w.heap.size + 1 < W2.heap.size := block_lt_of_cell k7
  have hv2 : Below w.heap.size w W2 := bstep0 hv1 hb2
  clear hb2 hv1 k1 k2 k3 k4 lk1 lk3
  go_wp2
  go_ret
  exact ⟨by first | rfl | simp, (by repeat (first | with_reducible exact Below.refl _ _ | with_reducible assumption | refine below_drewN ?_ _ | refine Below.drew ?_ | refine Below.alloc ?_ (by first | (simp; done) | (simp; omega) | omega) _ | refine Below.setCell ?_ (by first | (simp; done) | (simp; omega) | omega) _ | refine Below.trans ?_ (Below.mono (by assumption) (by first | (simp; done) | (simp; omega) | omega))))⟩

set_option maxRecDepth 100000 in
set_option maxHeartbeats 2000000 in
theorem closest_out2 (a b c d m k : Int) (h0 : 1 ≤ m) (h1 : 3000 < m) (KW : Hid (∀ W : World, Calls Tryd.prog 31 #[.agg #[.int .i64 a, .int .i64 b], .agg #[.int .i64 c, .int .i64 d]] W fun e w' => e = .returned (.bool false) ∧ Below W.heap.size W w')) (w : World) (hT : Hid (Tab w.heap.size w)) :
    Calls Tryd.prog 15 #[.agg #[.int .i64 a, .int .i64 b], .agg #[.int .i64 c, .int .i64 d], .int .i64 m, .int .i64 k] w fun e w' => e = .returned (.bool true) ∧ Below w.heap.size w w' := by
  go_enter Tryd.func15, Tryd.ntmps15
  go_wp2_with fail
  refine (KW.out _).mono ?_
  rintro e W1 ⟨rfl, hb1⟩
  have k1 : W1.cell? ⟨w.heap.size, 0, none⟩ = some (.int .i64 a) := kept1 (by simp [go_sem]) hb1
  have k2 : W1.cell? ⟨w.heap.size, 1, none⟩ = some (.int .i64 b) := kept1 (by simp [go_sem]) hb1
  have k3 : W1.cell? ⟨w.heap.size + 1, 0, none⟩ = some (.int .i64 c) := kept1 (by simp [go_sem]) hb1
  have k4 : W1.cell? ⟨w.heap.size + 1, 1, none⟩ = some (.int .i64 d) := kept1 (by simp [go_sem]) hb1
  have lk1 : w.heap.size < W1.heap.size := block_lt_of_cell k1
  have lk3 : w.heap.size + 1 < W1.heap.size := block_lt_of_cell k3
  have hv1 : Below w.heap.size w W1 := bstep2 (Below.refl _ _) hb1
  clear hb1  
  go_wp2_with fail
  refine (sanity_tab hT _ hv1).mono ?_
  rintro e W2 ⟨rfl, hb2⟩
  have k5 : W2.cell? ⟨w.heap.size, 0, none⟩ = some (.int .i64 a) := kept1 k1 hb2
  have k6 : W2.cell? ⟨w.heap.size, 1, none⟩ = some (.int .i64 b) := kept1 k2 hb2
  have k7 : W2.cell? ⟨w.heap.size + 1, 0, none⟩ = some (.int .i64 c) := kept1 k3 hb2
  have k8 : W2.cell? ⟨w.heap.size + 1, 1, none⟩ = some (.int .i64 d) := kept1 k4 hb2
  have lk5 : w.heap.size < W2.heap.size := block_lt_of_cell k5
  have lk7 : w.heap.size + 1 < W2.heap.size := block_lt_of_cell k7
  have hv2 : Below w.heap.size w W2 := bstep0 hv1 hb2
  clear hb2 hv1 k1 k2 k3 k4 lk1 lk3
  go_wp2
  go_ret
  exact ⟨by first | rfl | simp, (by repeat (first | with_reducible exact Below.refl _ _ | with_reducible assumption | refine below_drewN ?_ _ | refine Below.drew ?_ | refine Below.alloc ?_ (by first | (simp; done) | (simp; omega) | omega) _ | refine Below.setCell ?_ (by first | (simp; done) | (simp; omega) | omega) _ | refine Below.trans ?_ (Below.mono (by assumption) (by first | (simp; done) | (simp; omega) | omega))))⟩

set_option maxRecDepth 100000 in
set_option maxHeartbeats 2000000 in
theorem closest_out3 (a b c d m k : Int) (h0 : 1 ≤ m) (h1 : m ≤ 3000) (h2 : k < m) (KW : Hid (∀ W : World, Calls Tryd.prog 31 #[.agg #[.int .i64 a, .int .i64 b], .agg #[.int .i64 c, .int .i64 d]] W fun e w' => e = .returned (.bool false) ∧ Below W.heap.size W w')) (w : World) (hT : Hid (Tab w.heap.size w)) :
    Calls Tryd.prog 15 #[.agg #[.int .i64 a, .int .i64 b], .agg #[.int .i64 c, .int .i64 d], .int .i64 m, .int .i64 k] w fun e w' => e = .returned (.bool true) ∧ Below w.heap.size w w' := by
  go_enter Tryd.func15, Tryd.ntmps15
  go_wp2_with fail
  refine (KW.out _).mono ?_
  rintro e W1 ⟨rfl, hb1⟩
  have k1 : W1.cell? ⟨w.heap.size, 0, none⟩ = some (.int .i64 a) := kept1 (by simp [go_sem]) hb1
  have k2 : W1.cell? ⟨w.heap.size, 1, none⟩ = some (.int .i64 b) := kept1 (by simp [go_sem]) hb1
  have k3 : W1.cell? ⟨w.heap.size + 1, 0, none⟩ = some (.int .i64 c) := kept1 (by simp [go_sem]) hb1
  have k4 : W1.cell? ⟨w.heap.size + 1, 1, none⟩ = some (.int .i64 d) := kept1 (by simp [go_sem]) hb1
  have lk1 : w.heap.size < W1.heap.size := block_lt_of_cell k1
  have lk3 : w.heap.size + 1 < W1.heap.size := block_lt_of_cell k3
  have hv1 : Below w.heap.size w W1 := bstep2 (Below.refl _ _) hb1
  clear hb1  
  go_wp2_with fail
  refine (sanity_tab hT _ hv1).mono ?_
  rintro e W2 ⟨rfl, hb2⟩
  have k5 : W2.cell? ⟨w.heap.size, 0, none⟩ = some (.int .i64 a) := kept1 k1 hb2
  have k6 : W2.cell? ⟨w.heap.size, 1, none⟩ = some (.int .i64 b) := kept1 k2 hb2
  have k7 : W2.cell? ⟨w.heap.size + 1, 0, none⟩ = some (.int .i64 c) := kept1 k3 hb2
  have k8 : W2.cell? ⟨w.heap.size + 1, 1, none⟩ = some (.int .i64 d) := kept1 k4 hb2
  have lk5 : w.heap.size < W2.heap.size := block_lt_of_cell k5
  have lk7 : w.heap.size + 1 < W2.heap.size := block_lt_of_cell k7
  have hv2 : Below w.heap.size w W2 := bstep0 hv1 hb2
  clear hb2 hv1 k1 k2 k3 k4 lk1 lk3
  go_wp2
  go_ret
  exact ⟨by first | rfl | simp, (by repeat (first | with_reducible exact Below.refl _ _ | with_reducible assumption | refine below_drewN ?_ _ | refine Below.drew ?_ | refine Below.alloc ?_ (by first | (simp; done) | (simp; omega) | omega) _ | refine Below.setCell ?_ (by first | (simp; done) | (simp; omega) | omega) _ | refine Below.trans ?_ (Below.mono (by assumption) (by first | (simp; done) | (simp; omega) | omega))))⟩

set_option maxRecDepth 100000 in
set_option maxHeartbeats 2000000 in
theorem closest_out4 (a b c d m k : Int) (h0 : 1 ≤ m) (h1 : m ≤ 3000) (h2 : m ≤ k) (h3 : 3000 < k) (KW : Hid (∀ W : World, Calls Tryd.prog 31 #[.agg #[.int .i64 a, .int .i64 b], .agg #[.int .i64 c, .int .i64 d]] W fun e w' => e = .returned (.bool false) ∧ Below W.heap.size W w')) (w : World) (hT : Hid (Tab w.heap.size w)) :
    Calls Tryd.prog 15 #[.agg #[.int .i64 a, .int .i64 b], .agg #[.int .i64 c, .int .i64 d], .int .i64 m, .int .i64 k] w fun e w' => e = .returned (.bool true) ∧ Below w.heap.size w w' := by
  go_enter Tryd.func15, Tryd.ntmps15
  go_wp2_with fail
  refine (KW.out _).mono ?_
  rintro e W1 ⟨rfl, hb1⟩
  have k1 : W1.cell? ⟨w.heap.size, 0, none⟩ = some (.int .i64 a) := kept1 (by simp [go_sem]) hb1
  have k2 : W1.cell? ⟨w.heap.size, 1, none⟩ = some (.int .i64 b) := kept1 (by simp [go_sem]) hb1
  have k3 : W1.cell? ⟨w.heap.size + 1, 0, none⟩ = some (.int .i64 c) := kept1 (by simp [go_sem]) hb1
  have k4 : W1.cell? ⟨w.heap.size + 1, 1, none⟩ = some (.int .i64 d) := kept1 (by simp [go_sem]) hb1
  have lk1 : w.heap.size < W1.heap.size := block_lt_of_cell k1
  have lk3 : w.heap.size + 1 < W1.heap.size := block_lt_of_cell k3
  have hv1 : Below w.heap.size w W1 := bstep2 (Below.refl _ _) hb1
  clear hb1  
  go_wp2_with fail
  refine (sanity_tab hT _ hv1).mono ?_
  rintro e W2 ⟨rfl, hb2⟩
  have k5 : W2.cell? ⟨w.heap.size, 0, none⟩ = some (.int .i64 a) := kept1 k1 hb2
  have k6 : W2.cell? ⟨w.heap.size, 1, none⟩ = some (.int .i64 b) := kept1 k2 hb2
  have k7 : W2.cell? ⟨w.heap.size + 1, 0, none⟩ = some (.int .i64 c) := kept1 k3 hb2
  have k8 : W2.cell? ⟨w.heap.size + 1, 1, none⟩ = some (.int .i64 d) := kept1 k4 hb2
  have lk5 : w.heap.size < W2.heap.size := block_lt_of_cell k5
  have lk7 : w.heap.size + 1 < W2.heap.size := block_lt_of_cell k7
  have hv2 : Below w.heap.size w W2 := bstep0 hv1 hb2
  clear hb2 hv1 k1 k2 k3 k4 lk1 lk3
  go_wp2
  go_ret
  exact ⟨by first | rfl | simp, (by repeat (first | with_reducible exact Below.refl _ _ | with_reducible assumption | refine below_drewN ?_ _ | refine Below.drew ?_ | refine Below.alloc ?_ (by first | (simp; done) | (simp; omega) | omega) _ | refine Below.setCell ?_ (by first | (simp; done) | (simp; omega) | omega) _ | refine Below.trans ?_ (Below.mono (by assumption) (by first | (simp; done) | (simp; omega) | omega))))⟩

set_option maxRecDepth 100000 in
set_option maxHeartbeats 2000000 in
theorem closest_SF (a b c d m k : Int) (u v : Int) (h0 : 1 ≤ m) (h1 : m ≤ 3000) (h2 : m ≤ k) (h3 : k ≤ 3000) (KW : Hid (∀ W : World, Calls Tryd.prog 31 #[.agg #[.int .i64 a, .int .i64 b], .agg #[.int .i64 c, .int .i64 d]] W fun e w' => e = .returned (.bool false) ∧ Below W.heap.size W w')) (HB : Hid (∀ W : World, Calls Tryd.prog 52 #[.agg #[.int .i64 a, .int .i64 b], .int .i64 m] W fun e w' => e = .returned (.tuple #[.agg #[.int .i64 a, .int .i64 b], .int .i64 0]) ∧ Below W.heap.size W w')) (HM : Hid (∀ W : World, Calls Tryd.prog 52 #[.agg #[.int .i64 a, .int .i64 b], .int .i64 k] W fun e w' => e = .returned (.tuple #[.agg #[.int .i64 u, .int .i64 v], .int .i64 0]) ∧ Below W.heap.size W w')) (q1 : b ≤ m) (q2 : v ≤ k) (N1 : Hid (∀ W : World, Calls Tryd.prog 72 #[.agg #[.int .i64 a, .int .i64 b], .agg #[.int .i64 u, .int .i64 v], .agg #[.int .i64 a, .int .i64 b]] W fun e w' => e = .returned (.bool true) ∧ Below W.heap.size W w')) (q4 : m < d) (w : World) (hT : Hid (Tab w.heap.size w)) :
    Calls Tryd.prog 15 #[.agg #[.int .i64 a, .int .i64 b], .agg #[.int .i64 c, .int .i64 d], .int .i64 m, .int .i64 k] w fun e w' => e = .returned (.bool true) ∧ Below w.heap.size w w' := by
  go_enter Tryd.func15, Tryd.ntmps15
  go_wp2_with fail
  refine (KW.out _).mono ?_
  rintro e W1 ⟨rfl, hb1⟩
  have k1 : W1.cell? ⟨w.heap.size, 0, none⟩ = some (.int .i64 a) := kept1 (by simp [go_sem]) hb1
  have k2 : W1.cell? ⟨w.heap.size, 1, none⟩ = some (.int .i64 b) := kept1 (by simp [go_sem]) hb1
  have k3 : W1.cell? ⟨w.heap.size + 1, 0, none⟩ = some (.int .i64 c) := kept1 (by simp [go_sem]) hb1
  have k4 : W1.cell? ⟨w.heap.size + 1, 1, none⟩ = some (.int .i64 d) := kept1 (by simp [go_sem]) hb1
  have lk1 : w.heap.size < W1.heap.size := block_lt_of_cell k1
  have lk3 : w.heap.size + 1 < W1.heap.size := block_lt_of_cell k3
  have hv1 : Below w.heap.size w W1 := bstep2 (Below.refl _ _) hb1
  clear hb1  
  go_wp2_with fail
  refine (HB.out _).mono ?_
  rintro e W2 ⟨rfl, hb2⟩
  have k5 : W2.cell? ⟨w.heap.size, 0, none⟩ = some (.int .i64 a) := kept1 k1 hb2
  have k6 : W2.cell? ⟨w.heap.size, 1, none⟩ = some (.int .i64 b) := kept1 k2 hb2
  have k7 : W2.cell? ⟨w.heap.size + 1, 0, none⟩ = some (.int .i64 c) := kept1 k3 hb2
  have k8 : W2.cell? ⟨w.heap.size + 1, 1, none⟩ = some (.int .i64 d) := kept1 k4 hb2
  have lk5 : w.heap.size < W2.heap.size := block_lt_of_cell k5
  have lk7 : w.heap.size + 1 < W2.heap.size := block_lt_of_cell k7
  have hv2 : Below w.heap.size w W2 := bstep0 hv1 hb2
  clear hb2 hv1 k1 k2 k3 k4 lk1 lk3
  go_wp2_with fail
  refine (HM.out _).mono ?_
  rintro e W3 ⟨rfl, hb3⟩
  have k9 : W3.cell? ⟨w.heap.size, 0, none⟩ = some (.int .i64 a) := kept_a1 k5 hb3
  have k10 : W3.cell? ⟨w.heap.size, 1, none⟩ = some (.int .i64 b) := kept_a1 k6 hb3
  have k11 : W3.cell? ⟨w.heap.size + 1, 0, none⟩ = some (.int .i64 c) := kept_a1 k7 hb3
  have k12 : W3.cell? ⟨w.heap.size + 1, 1, none⟩ = some (.int .i64 d) := kept_a1 k8 hb3
  have k13 : W3.cell? ⟨W2.heap.size, 0, none⟩ = some (.int .i64 a) := kept1 (by simp [go_sem]) hb3
  have k14 : W3.cell? ⟨W2.heap.size, 1, none⟩ = some (.int .i64 b) := kept1 (by simp [go_sem]) hb3
  have lk9 : w.heap.size < W3.heap.size := block_lt_of_cell k9
  have lk11 : w.heap.size + 1 < W3.heap.size := block_lt_of_cell k11
  have lk13 : W2.heap.size < W3.heap.size := block_lt_of_cell k13
  have hv3 : Below w.heap.size w W3 := bstep1 hv2 hb3
  clear hb3 hv2 k5 k6 k7 k8 lk5 lk7
  go_wp2_with fail
  refine (sanity_tab hT _ (below_alloc hv3 _)).mono ?_
  rintro e W4 ⟨rfl, hb4⟩
  have k15 : W4.cell? ⟨w.heap.size, 0, none⟩ = some (.int .i64 a) := kept_a1 k9 hb4
  have k16 : W4.cell? ⟨w.heap.size, 1, none⟩ = some (.int .i64 b) := kept_a1 k10 hb4
  have k17 : W4.cell? ⟨w.heap.size + 1, 0, none⟩ = some (.int .i64 c) := kept_a1 k11 hb4
  have k18 : W4.cell? ⟨w.heap.size + 1, 1, none⟩ = some (.int .i64 d) := kept_a1 k12 hb4
  have k19 : W4.cell? ⟨W2.heap.size, 0, none⟩ = some (.int .i64 a) := kept_a1 k13 hb4
  have k20 : W4.cell? ⟨W2.heap.size, 1, none⟩ = some (.int .i64 b) := kept_a1 k14 hb4
  have k21 : W4.cell? ⟨W3.heap.size, 0, none⟩ = some (.int .i64 u) := kept1 (by simp [go_sem]) hb4
  have k22 : W4.cell? ⟨W3.heap.size, 1, none⟩ = some (.int .i64 v) := kept1 (by simp [go_sem]) hb4
  have lk15 : w.heap.size < W4.heap.size := block_lt_of_cell k15
  have lk17 : w.heap.size + 1 < W4.heap.size := block_lt_of_cell k17
  have lk19 : W2.heap.size < W4.heap.size := block_lt_of_cell k19
  have lk21 : W3.heap.size < W4.heap.size := block_lt_of_cell k21
  have hv4 : Below w.heap.size w W4 := bstep1 hv3 hb4
  clear hb4 hv3 k9 k10 k11 k12 k13 k14 lk9 lk11 lk13
  go_wp2_with fail
  refine (N1.out _).mono ?_
  rintro e W5 ⟨rfl, hb5⟩
  have k23 : W5.cell? ⟨w.heap.size, 0, none⟩ = some (.int .i64 a) := kept1 k15 hb5
  have k24 : W5.cell? ⟨w.heap.size, 1, none⟩ = some (.int .i64 b) := kept1 k16 hb5
  have k25 : W5.cell? ⟨w.heap.size + 1, 0, none⟩ = some (.int .i64 c) := kept1 k17 hb5
  have k26 : W5.cell? ⟨w.heap.size + 1, 1, none⟩ = some (.int .i64 d) := kept1 k18 hb5
  have k27 : W5.cell? ⟨W2.heap.size, 0, none⟩ = some (.int .i64 a) := kept1 k19 hb5
  have k28 : W5.cell? ⟨W2.heap.size, 1, none⟩ = some (.int .i64 b) := kept1 k20 hb5
  have k29 : W5.cell? ⟨W3.heap.size, 0, none⟩ = some (.int .i64 u) := kept1 k21 hb5
  have k30 : W5.cell? ⟨W3.heap.size, 1, none⟩ = some (.int .i64 v) := kept1 k22 hb5
  have lk23 : w.heap.size < W5.heap.size := block_lt_of_cell k23
  have lk25 : w.heap.size + 1 < W5.heap.size := block_lt_of_cell k25
  have lk27 : W2.heap.size < W5.heap.size := block_lt_of_cell k27
  have lk29 : W3.heap.size < W5.heap.size := block_lt_of_cell k29
  have hv5 : Below w.heap.size w W5 := bstep0 hv4 hb5
  clear hb5 hv4 k15 k16 k17 k18 k19 k20 k21 k22 lk15 lk17 lk19 lk21
  go_wp2
  go_ret
  exact ⟨by first | rfl | simp, (by repeat (first | with_reducible exact Below.refl _ _ | with_reducible assumption | refine below_drewN ?_ _ | refine Below.drew ?_ | refine Below.alloc ?_ (by first | (simp; done) | (simp; omega) | omega) _ | refine Below.setCell ?_ (by first | (simp; done) | (simp; omega) | omega) _ | refine Below.trans ?_ (Below.mono (by assumption) (by first | (simp; done) | (simp; omega) | omega))))⟩

set_option maxRecDepth 100000 in
set_option maxHeartbeats 2000000 in
theorem closest_SC (a b c d m k : Int) (u v : Int) (h0 : 1 ≤ m) (h1 : m ≤ 3000) (h2 : m ≤ k) (h3 : k ≤ 3000) (KW : Hid (∀ W : World, Calls Tryd.prog 31 #[.agg #[.int .i64 a, .int .i64 b], .agg #[.int .i64 c, .int .i64 d]] W fun e w' => e = .returned (.bool false) ∧ Below W.heap.size W w')) (HB : Hid (∀ W : World, Calls Tryd.prog 52 #[.agg #[.int .i64 a, .int .i64 b], .int .i64 m] W fun e w' => e = .returned (.tuple #[.agg #[.int .i64 a, .int .i64 b], .int .i64 0]) ∧ Below W.heap.size W w')) (HM : Hid (∀ W : World, Calls Tryd.prog 52 #[.agg #[.int .i64 a, .int .i64 b], .int .i64 k] W fun e w' => e = .returned (.tuple #[.agg #[.int .i64 u, .int .i64 v], .int .i64 0]) ∧ Below W.heap.size W w')) (q1 : b ≤ m) (q2 : v ≤ k) (N1 : Hid (∀ W : World, Calls Tryd.prog 72 #[.agg #[.int .i64 a, .int .i64 b], .agg #[.int .i64 u, .int .i64 v], .agg #[.int .i64 a, .int .i64 b]] W fun e w' => e = .returned (.bool true) ∧ Below W.heap.size W w')) (q4 : d ≤ m) (N2 : Hid (∀ W : World, Calls Tryd.prog 72 #[.agg #[.int .i64 a, .int .i64 b], .agg #[.int .i64 a, .int .i64 b], .agg #[.int .i64 c, .int .i64 d]] W fun e w' => e = .returned (.bool true) ∧ Below W.heap.size W w')) (w : World) (hT : Hid (Tab w.heap.size w)) :
    Calls Tryd.prog 15 #[.agg #[.int .i64 a, .int .i64 b], .agg #[.int .i64 c, .int .i64 d], .int .i64 m, .int .i64 k] w fun e w' => e = .returned (.bool true) ∧ Below w.heap.size w w' := by
  go_enter Tryd.func15, Tryd.ntmps15
  go_wp2_with fail
  refine (KW.out _).mono ?_
  rintro e W1 ⟨rfl, hb1⟩
  have k1 : W1.cell? ⟨w.heap.size, 0, none⟩ = some (.int .i64 a) := kept1 (by simp [go_sem]) hb1
  have k2 : W1.cell? ⟨w.heap.size, 1, none⟩ = some (.int .i64 b) := kept1 (by simp [go_sem]) hb1
  have k3 : W1.cell? ⟨w.heap.size + 1, 0, none⟩ = some (.int .i64 c) := kept1 (by simp [go_sem]) hb1
  have k4 : W1.cell? ⟨w.heap.size + 1, 1, none⟩ = some (.int .i64 d) := kept1 (by simp [go_sem]) hb1
  have lk1 : w.heap.size < W1.heap.size := block_lt_of_cell k1
  have lk3 : w.heap.size + 1 < W1.heap.size := block_lt_of_cell k3
  have hv1 : Below w.heap.size w W1 := bstep2 (Below.refl _ _) hb1
  clear hb1  
  go_wp2_with fail
  refine (HB.out _).mono ?_
  rintro e W2 ⟨rfl, hb2⟩
  have k5 : W2.cell? ⟨w.heap.size, 0, none⟩ = some (.int .i64 a) := kept1 k1 hb2
  have k6 : W2.cell? ⟨w.heap.size, 1, none⟩ = some (.int .i64 b) := kept1 k2 hb2
  have k7 : W2.cell? ⟨w.heap.size + 1, 0, none⟩ = some (.int .i64 c) := kept1 k3 hb2
  have k8 : W2.cell? ⟨w.heap.size + 1, 1, none⟩ = some (.int .i64 d) := kept1 k4 hb2
  have lk5 : w.heap.size < W2.heap.size := block_lt_of_cell k5
  have lk7 : w.heap.size + 1 < W2.heap.size := block_lt_of_cell k7
  have hv2 : Below w.heap.size w W2 := bstep0 hv1 hb2
  clear hb2 hv1 k1 k2 k3 k4 lk1 lk3
  go_wp2_with fail
  refine (HM.out _).mono ?_
  rintro e W3 ⟨rfl, hb3⟩
  have k9 : W3.cell? ⟨w.heap.size, 0, none⟩ = some (.int .i64 a) := kept_a1 k5 hb3
  have k10 : W3.cell? ⟨w.heap.size, 1, none⟩ = some (.int .i64 b) := kept_a1 k6 hb3
  have k11 : W3.cell? ⟨w.heap.size + 1, 0, none⟩ = some (.int .i64 c) := kept_a1 k7 hb3
  have k12 : W3.cell? ⟨w.heap.size + 1, 1, none⟩ = some (.int .i64 d) := kept_a1 k8 hb3
  have k13 : W3.cell? ⟨W2.heap.size, 0, none⟩ = some (.int .i64 a) := kept1 (by simp [go_sem]) hb3
  have k14 : W3.cell? ⟨W2.heap.size, 1, none⟩ = some (.int .i64 b) := kept1 (by simp [go_sem]) hb3
  have lk9 : w.heap.size < W3.heap.size := block_lt_of_cell k9
  have lk11 : w.heap.size + 1 < W3.heap.size := block_lt_of_cell k11
  have lk13 : W2.heap.size < W3.heap.size := block_lt_of_cell k13
  have hv3 : Below w.heap.size w W3 := bstep1 hv2 hb3
  clear hb3 hv2 k5 k6 k7 k8 lk5 lk7
  go_wp2_with fail
  refine (sanity_tab hT _ (below_alloc hv3 _)).mono ?_
  rintro e W4 ⟨rfl, hb4⟩
  have k15 : W4.cell? ⟨w.heap.size, 0, none⟩ = some (.int .i64 a) := kept_a1 k9 hb4
  have k16 : W4.cell? ⟨w.heap.size, 1, none⟩ = some (.int .i64 b) := kept_a1 k10 hb4
  have k17 : W4.cell? ⟨w.heap.size + 1, 0, none⟩ = some (.int .i64 c) := kept_a1 k11 hb4
  have k18 : W4.cell? ⟨w.heap.size + 1, 1, none⟩ = some (.int .i64 d) := kept_a1 k12 hb4
  have k19 : W4.cell? ⟨W2.heap.size, 0, none⟩ = some (.int .i64 a) := kept_a1 k13 hb4
  have k20 : W4.cell? ⟨W2.heap.size, 1, none⟩ = some (.int .i64 b) := kept_a1 k14 hb4
  have k21 : W4.cell? ⟨W3.heap.size, 0, none⟩ = some (.int .i64 u) := kept1 (by simp [go_sem]) hb4
  have k22 : W4.cell? ⟨W3.heap.size, 1, none⟩ = some (.int .i64 v) := kept1 (by simp [go_sem]) hb4
  have lk15 : w.heap.size < W4.heap.size := block_lt_of_cell k15
  have lk17 : w.heap.size + 1 < W4.heap.size := block_lt_of_cell k17
  have lk19 : W2.heap.size < W4.heap.size := block_lt_of_cell k19
  have lk21 : W3.heap.size < W4.heap.size := block_lt_of_cell k21
  have hv4 : Below w.heap.size w W4 := bstep1 hv3 hb4
  clear hb4 hv3 k9 k10 k11 k12 k13 k14 lk9 lk11 lk13
  go_wp2_with fail
  refine (N1.out _).mono ?_
  rintro e W5 ⟨rfl, hb5⟩
  have k23 : W5.cell? ⟨w.heap.size, 0, none⟩ = some (.int .i64 a) := kept1 k15 hb5
  have k24 : W5.cell? ⟨w.heap.size, 1, none⟩ = some (.int .i64 b) := kept1 k16 hb5
  have k25 : W5.cell? ⟨w.heap.size + 1, 0, none⟩ = some (.int .i64 c) := kept1 k17 hb5
  have k26 : W5.cell? ⟨w.heap.size + 1, 1, none⟩ = some (.int .i64 d) := kept1 k18 hb5
  have k27 : W5.cell? ⟨W2.heap.size, 0, none⟩ = some (.int .i64 a) := kept1 k19 hb5
  have k28 : W5.cell? ⟨W2.heap.size, 1, none⟩ = some (.int .i64 b) := kept1 k20 hb5
  have k29 : W5.cell? ⟨W3.heap.size, 0, none⟩ = some (.int .i64 u) := kept1 k21 hb5
  have k30 : W5.cell? ⟨W3.heap.size, 1, none⟩ = some (.int .i64 v) := kept1 k22 hb5
  have lk23 : w.heap.size < W5.heap.size := block_lt_of_cell k23
  have lk25 : w.heap.size + 1 < W5.heap.size := block_lt_of_cell k25
  have lk27 : W2.heap.size < W5.heap.size := block_lt_of_cell k27
  have lk29 : W3.heap.size < W5.heap.size := block_lt_of_cell k29
  have hv5 : Below w.heap.size w W5 := bstep0 hv4 hb5
  clear hb5 hv4 k15 k16 k17 k18 k19 k20 k21 k22 lk15 lk17 lk19 lk21
  go_wp2_with fail
  refine (N2.out _).mono ?_
  rintro e W6 ⟨rfl, hb6⟩
  have k31 : W6.cell? ⟨w.heap.size, 0, none⟩ = some (.int .i64 a) := kept1 k23 hb6
  have k32 : W6.cell? ⟨w.heap.size, 1, none⟩ = some (.int .i64 b) := kept1 k24 hb6
  have k33 : W6.cell? ⟨w.heap.size + 1, 0, none⟩ = some (.int .i64 c) := kept1 k25 hb6
  have k34 : W6.cell? ⟨w.heap.size + 1, 1, none⟩ = some (.int .i64 d) := kept1 k26 hb6
  have k35 : W6.cell? ⟨W2.heap.size, 0, none⟩ = some (.int .i64 a) := kept1 k27 hb6
  have k36 : W6.cell? ⟨W2.heap.size, 1, none⟩ = some (.int .i64 b) := kept1 k28 hb6
  have k37 : W6.cell? ⟨W3.heap.size, 0, none⟩ = some (.int .i64 u) := kept1 k29 hb6
  have k38 : W6.cell? ⟨W3.heap.size, 1, none⟩ = some (.int .i64 v) := kept1 k30 hb6
  have lk31 : w.heap.size < W6.heap.size := block_lt_of_cell k31
  have lk33 : w.heap.size + 1 < W6.heap.size := block_lt_of_cell k33
  have lk35 : W2.heap.size < W6.heap.size := block_lt_of_cell k35
  have lk37 : W3.heap.size < W6.heap.size := block_lt_of_cell k37
  have hv6 : Below w.heap.size w W6 := bstep0 hv5 hb6
  clear hb6 hv5 k23 k24 k25 k26 k27 k28 k29 k30 lk23 lk25 lk27 lk29
  go_wp2
  go_ret
  exact ⟨by first | rfl | simp, (by repeat (first | with_reducible exact Below.refl _ _ | with_reducible assumption | refine below_drewN ?_ _ | refine Below.drew ?_ | refine Below.alloc ?_ (by first | (simp; done) | (simp; omega) | omega) _ | refine Below.setCell ?_ (by first | (simp; done) | (simp; omega) | omega) _ | refine Below.trans ?_ (Below.mono (by assumption) (by first | (simp; done) | (simp; omega) | omega))))⟩

set_option maxRecDepth 100000 in
set_option maxHeartbeats 2000000 in
theorem closest_NF (a b c d m k : Int) (p q u v : Int) (h0 : 1 ≤ m) (h1 : m ≤ 3000) (h2 : m ≤ k) (h3 : k ≤ 3000) (KW : Hid (∀ W : World, Calls Tryd.prog 31 #[.agg #[.int .i64 a, .int .i64 b], .agg #[.int .i64 c, .int .i64 d]] W fun e w' => e = .returned (.bool false) ∧ Below W.heap.size W w')) (HB : Hid (∀ W : World, Calls Tryd.prog 52 #[.agg #[.int .i64 a, .int .i64 b], .int .i64 m] W fun e w' => e = .returned (.tuple #[.agg #[.int .i64 p, .int .i64 q], .int .i64 0]) ∧ Below W.heap.size W w')) (HM : Hid (∀ W : World, Calls Tryd.prog 52 #[.agg #[.int .i64 a, .int .i64 b], .int .i64 k] W fun e w' => e = .returned (.tuple #[.agg #[.int .i64 u, .int .i64 v], .int .i64 0]) ∧ Below W.heap.size W w')) (q1 : q ≤ m) (q2 : v ≤ k) (q3 : m < b) (N1 : Hid (∀ W : World, Calls Tryd.prog 72 #[.agg #[.int .i64 a, .int .i64 b], .agg #[.int .i64 u, .int .i64 v], .agg #[.int .i64 p, .int .i64 q]] W fun e w' => e = .returned (.bool true) ∧ Below W.heap.size W w')) (q4 : m < d) (w : World) (hT : Hid (Tab w.heap.size w)) :
    Calls Tryd.prog 15 #[.agg #[.int .i64 a, .int .i64 b], .agg #[.int .i64 c, .int .i64 d], .int .i64 m, .int .i64 k] w fun e w' => e = .returned (.bool true) ∧ Below w.heap.size w w' := by
  go_enter Tryd.func15, Tryd.ntmps15
  go_wp2_with fail
  refine (KW.out _).mono ?_
  rintro e W1 ⟨rfl, hb1⟩
  have k1 : W1.cell? ⟨w.heap.size, 0, none⟩ = some (.int .i64 a) := kept1 (by simp [go_sem]) hb1
  have k2 : W1.cell? ⟨w.heap.size, 1, none⟩ = some (.int .i64 b) := kept1 (by simp [go_sem]) hb1
  have k3 : W1.cell? ⟨w.heap.size + 1, 0, none⟩ = some (.int .i64 c) := kept1 (by simp [go_sem]) hb1
  have k4 : W1.cell? ⟨w.heap.size + 1, 1, none⟩ = some (.int .i64 d) := kept1 (by simp [go_sem]) hb1
  have lk1 : w.heap.size < W1.heap.size := block_lt_of_cell k1
  have lk3 : w.heap.size + 1 < W1.heap.size := block_lt_of_cell k3
  have hv1 : Below w.heap.size w W1 := bstep2 (Below.refl _ _) hb1
  clear hb1  
  go_wp2_with fail
  refine (HB.out _).mono ?_
  rintro e W2 ⟨rfl, hb2⟩
  have k5 : W2.cell? ⟨w.heap.size, 0, none⟩ = some (.int .i64 a) := kept1 k1 hb2
  have k6 : W2.cell? ⟨w.heap.size, 1, none⟩ = some (.int .i64 b) := kept1 k2 hb2
  have k7 : W2.cell? ⟨w.heap.size + 1, 0, none⟩ = some (.int .i64 c) := kept1 k3 hb2
  have k8 : W2.cell? ⟨w.heap.size + 1, 1, none⟩ = some (.int .i64 d) := kept1 k4 hb2
  have lk5 : w.heap.size < W2.heap.size := block_lt_of_cell k5
  have lk7 : w.heap.size + 1 < W2.heap.size := block_lt_of_cell k7
  have hv2 : Below w.heap.size w W2 := bstep0 hv1 hb2
  clear hb2 hv1 k1 k2 k3 k4 lk1 lk3
  go_wp2_with fail
  refine (HM.out _).mono ?_
  rintro e W3 ⟨rfl, hb3⟩
  have k9 : W3.cell? ⟨w.heap.size, 0, none⟩ = some (.int .i64 a) := kept_a1 k5 hb3
  have k10 : W3.cell? ⟨w.heap.size, 1, none⟩ = some (.int .i64 b) := kept_a1 k6 hb3
  have k11 : W3.cell? ⟨w.heap.size + 1, 0, none⟩ = some (.int .i64 c) := kept_a1 k7 hb3
  have k12 : W3.cell? ⟨w.heap.size + 1, 1, none⟩ = some (.int .i64 d) := kept_a1 k8 hb3
  have k13 : W3.cell? ⟨W2.heap.size, 0, none⟩ = some (.int .i64 p) := kept1 (by simp [go_sem]) hb3
  have k14 : W3.cell? ⟨W2.heap.size, 1, none⟩ = some (.int .i64 q) := kept1 (by simp [go_sem]) hb3
  have lk9 : w.heap.size < W3.heap.size := block_lt_of_cell k9
  have lk11 : w.heap.size + 1 < W3.heap.size := block_lt_of_cell k11
  have lk13 : W2.heap.size < W3.heap.size := block_lt_of_cell k13
  have hv3 : Below w.heap.size w W3 := bstep1 hv2 hb3
  clear hb3 hv2 k5 k6 k7 k8 lk5 lk7
  go_wp2_with fail
  refine (sanity_tab hT _ (below_alloc hv3 _)).mono ?_
  rintro e W4 ⟨rfl, hb4⟩
  have k15 : W4.cell? ⟨w.heap.size, 0, none⟩ = some (.int .i64 a) := kept_a1 k9 hb4
  have k16 : W4.cell? ⟨w.heap.size, 1, none⟩ = some (.int .i64 b) := kept_a1 k10 hb4
  have k17 : W4.cell? ⟨w.heap.size + 1, 0, none⟩ = some (.int .i64 c) := kept_a1 k11 hb4
  have k18 : W4.cell? ⟨w.heap.size + 1, 1, none⟩ = some (.int .i64 d) := kept_a1 k12 hb4
  have k19 : W4.cell? ⟨W2.heap.size, 0, none⟩ = some (.int .i64 p) := kept_a1 k13 hb4
  have k20 : W4.cell? ⟨W2.heap.size, 1, none⟩ = some (.int .i64 q) := kept_a1 k14 hb4
  have k21 : W4.cell? ⟨W3.heap.size, 0, none⟩ = some (.int .i64 u) := kept1 (by simp [go_sem]) hb4
  have k22 : W4.cell? ⟨W3.heap.size, 1, none⟩ = some (.int .i64 v) := kept1 (by simp [go_sem]) hb4
  have lk15 : w.heap.size < W4.heap.size := block_lt_of_cell k15
  have lk17 : w.heap.size + 1 < W4.heap.size := block_lt_of_cell k17
  have lk19 : W2.heap.size < W4.heap.size := block_lt_of_cell k19
  have lk21 : W3.heap.size < W4.heap.size := block_lt_of_cell k21
  have hv4 : Below w.heap.size w W4 := bstep1 hv3 hb4
  clear hb4 hv3 k9 k10 k11 k12 k13 k14 lk9 lk11 lk13
  go_wp2_with fail
  refine (N1.out _).mono ?_
  rintro e W5 ⟨rfl, hb5⟩
  have k23 : W5.cell? ⟨w.heap.size, 0, none⟩ = some (.int .i64 a) := kept1 k15 hb5
  have k24 : W5.cell? ⟨w.heap.size, 1, none⟩ = some (.int .i64 b) := kept1 k16 hb5
  have k25 : W5.cell? ⟨w.heap.size + 1, 0, none⟩ = some (.int .i64 c) := kept1 k17 hb5
  have k26 : W5.cell? ⟨w.heap.size + 1, 1, none⟩ = some (.int .i64 d) := kept1 k18 hb5
  have k27 : W5.cell? ⟨W2.heap.size, 0, none⟩ = some (.int .i64 p) := kept1 k19 hb5
  have k28 : W5.cell? ⟨W2.heap.size, 1, none⟩ = some (.int .i64 q) := kept1 k20 hb5
  have k29 : W5.cell? ⟨W3.heap.size, 0, none⟩ = some (.int .i64 u) := kept1 k21 hb5
  have k30 : W5.cell? ⟨W3.heap.size, 1, none⟩ = some (.int .i64 v) := kept1 k22 hb5
  have lk23 : w.heap.size < W5.heap.size := block_lt_of_cell k23
  have lk25 : w.heap.size + 1 < W5.heap.size := block_lt_of_cell k25
  have lk27 : W2.heap.size < W5.heap.size := block_lt_of_cell k27
  have lk29 : W3.heap.size < W5.heap.size := block_lt_of_cell k29
  have hv5 : Below w.heap.size w W5 := bstep0 hv4 hb5
  clear hb5 hv4 k15 k16 k17 k18 k19 k20 k21 k22 lk15 lk17 lk19 lk21
  go_wp2
  go_ret
  exact ⟨by first | rfl | simp, (by repeat (first | with_reducible exact Below.refl _ _ | with_reducible assumption | refine below_drewN ?_ _ | refine Below.drew ?_ | refine Below.alloc ?_ (by first | (simp; done) | (simp; omega) | omega) _ | refine Below.setCell ?_ (by first | (simp; done) | (simp; omega) | omega) _ | refine Below.trans ?_ (Below.mono (by assumption) (by first | (simp; done) | (simp; omega) | omega))))⟩

set_option maxRecDepth 100000 in
set_option maxHeartbeats 2000000 in
theorem closest_NC (a b c d m k : Int) (p q u v : Int) (h0 : 1 ≤ m) (h1 : m ≤ 3000) (h2 : m ≤ k) (h3 : k ≤ 3000) (KW : Hid (∀ W : World, Calls Tryd.prog 31 #[.agg #[.int .i64 a, .int .i64 b], .agg #[.int .i64 c, .int .i64 d]] W fun e w' => e = .returned (.bool false) ∧ Below W.heap.size W w')) (HB : Hid (∀ W : World, Calls Tryd.prog 52 #[.agg #[.int .i64 a, .int .i64 b], .int .i64 m] W fun e w' => e = .returned (.tuple #[.agg #[.int .i64 p, .int .i64 q], .int .i64 0]) ∧ Below W.heap.size W w')) (HM : Hid (∀ W : World, Calls Tryd.prog 52 #[.agg #[.int .i64 a, .int .i64 b], .int .i64 k] W fun e w' => e = .returned (.tuple #[.agg #[.int .i64 u, .int .i64 v], .int .i64 0]) ∧ Below W.heap.size W w')) (q1 : q ≤ m) (q2 : v ≤ k) (q3 : m < b) (N1 : Hid (∀ W : World, Calls Tryd.prog 72 #[.agg #[.int .i64 a, .int .i64 b], .agg #[.int .i64 u, .int .i64 v], .agg #[.int .i64 p, .int .i64 q]] W fun e w' => e = .returned (.bool true) ∧ Below W.heap.size W w')) (q4 : d ≤ m) (N2 : Hid (∀ W : World, Calls Tryd.prog 72 #[.agg #[.int .i64 a, .int .i64 b], .agg #[.int .i64 p, .int .i64 q], .agg #[.int .i64 c, .int .i64 d]] W fun e w' => e = .returned (.bool true) ∧ Below W.heap.size W w')) (w : World) (hT : Hid (Tab w.heap.size w)) :
    Calls Tryd.prog 15 #[.agg #[.int .i64 a, .int .i64 b], .agg #[.int .i64 c, .int .i64 d], .int .i64 m, .int .i64 k] w fun e w' => e = .returned (.bool true) ∧ Below w.heap.size w w' := by
  go_enter Tryd.func15, Tryd.ntmps15
  go_wp2_with fail
  refine (KW.out _).mono ?_
  rintro e W1 ⟨rfl, hb1⟩
  have k1 : W1.cell? ⟨w.heap.size, 0, none⟩ = some (.int .i64 a) := kept1 (by simp [go_sem]) hb1
  have k2 : W1.cell? ⟨w.heap.size, 1, none⟩ = some (.int .i64 b) := kept1 (by simp [go_sem]) hb1
  have k3 : W1.cell? ⟨w.heap.size + 1, 0, none⟩ = some (.int .i64 c) := kept1 (by simp [go_sem]) hb1
  have k4 : W1.cell? ⟨w.heap.size + 1, 1, none⟩ = some (.int .i64 d) := kept1 (by simp [go_sem]) hb1
  have lk1 : w.heap.size < W1.heap.size := block_lt_of_cell k1
  have lk3 : w.heap.size + 1 < W1.heap.size := block_lt_of_cell k3
  have hv1 : Below w.heap.size w W1 := bstep2 (Below.refl _ _) hb1
  clear hb1  
  go_wp2_with fail
  refine (HB.out _).mono ?_
  rintro e W2 ⟨rfl, hb2⟩
  have k5 : W2.cell? ⟨w.heap.size, 0, none⟩ = some (.int .i64 a) := kept1 k1 hb2
  have k6 : W2.cell? ⟨w.heap.size, 1, none⟩ = some (.int .i64 b) := kept1 k2 hb2
  have k7 : W2.cell? ⟨w.heap.size + 1, 0, none⟩ = some (.int .i64 c) := kept1 k3 hb2
  have k8 : W2.cell? ⟨w.heap.size + 1, 1, none⟩ = some (.int .i64 d) := kept1 k4 hb2
  have lk5 : w.heap.size < W2.heap.size := block_lt_of_cell k5
  have lk7 : w.heap.size + 1 < W2.heap.size := block_lt_of_cell k7
  have hv2 : Below w.heap.size w W2 := bstep0 hv1 hb2
  clear hb2 hv1 k1 k2 k3 k4 lk1 lk3
  go_wp2_with fail
  refine (HM.out _).mono ?_
  rintro e W3 ⟨rfl, hb3⟩
  have k9 : W3.cell? ⟨w.heap.size, 0, none⟩ = some (.int .i64 a) := kept_a1 k5 hb3
  have k10 : W3.cell? ⟨w.heap.size, 1, none⟩ = some (.int .i64 b) := kept_a1 k6 hb3
  have k11 : W3.cell? ⟨w.heap.size + 1, 0, none⟩ = some (.int .i64 c) := kept_a1 k7 hb3
  have k12 : W3.cell? ⟨w.heap.size + 1, 1, none⟩ = some (.int .i64 d) := kept_a1 k8 hb3
  have k13 : W3.cell? ⟨W2.heap.size, 0, none⟩ = some (.int .i64 p) := kept1 (by simp [go_sem]) hb3
  have k14 : W3.cell? ⟨W2.heap.size, 1, none⟩ = some (.int .i64 q) := kept1 (by simp [go_sem]) hb3
  have lk9 : w.heap.size < W3.heap.size := block_lt_of_cell k9
  have lk11 : w.heap.size + 1 < W3.heap.size := block_lt_of_cell k11
  have lk13 : W2.heap.size < W3.heap.size := block_lt_of_cell k13
  have hv3 : Below w.heap.size w W3 := bstep1 hv2 hb3
  clear hb3 hv2 k5 k6 k7 k8 lk5 lk7
  go_wp2_with fail
  refine (sanity_tab hT _ (below_alloc hv3 _)).mono ?_
  rintro e W4 ⟨rfl, hb4⟩
  have k15 : W4.cell? ⟨w.heap.size, 0, none⟩ = some (.int .i64 a) := kept_a1 k9 hb4
  have k16 : W4.cell? ⟨w.heap.size, 1, none⟩ = some (.int .i64 b) := kept_a1 k10 hb4
  have k17 : W4.cell? ⟨w.heap.size + 1, 0, none⟩ = some (.int .i64 c) := kept_a1 k11 hb4
  have k18 : W4.cell? ⟨w.heap.size + 1, 1, none⟩ = some (.int .i64 d) := kept_a1 k12 hb4
  have k19 : W4.cell? ⟨W2.heap.size, 0, none⟩ = some (.int .i64 p) := kept_a1 k13 hb4
  have k20 : W4.cell? ⟨W2.heap.size, 1, none⟩ = some (.int .i64 q) := kept_a1 k14 hb4
  have k21 : W4.cell? ⟨W3.heap.size, 0, none⟩ = some (.int .i64 u) := kept1 (by simp [go_sem]) hb4
  have k22 : W4.cell? ⟨W3.heap.size, 1, none⟩ = some (.int .i64 v) := kept1 (by simp [go_sem]) hb4
  have lk15 : w.heap.size < W4.heap.size := block_lt_of_cell k15
  have lk17 : w.heap.size + 1 < W4.heap.size := block_lt_of_cell k17
  have lk19 : W2.heap.size < W4.heap.size := block_lt_of_cell k19
  have lk21 : W3.heap.size < W4.heap.size := block_lt_of_cell k21
  have hv4 : Below w.heap.size w W4 := bstep1 hv3 hb4
  clear hb4 hv3 k9 k10 k11 k12 k13 k14 lk9 lk11 lk13
  go_wp2_with fail
  refine (N1.out _).mono ?_
  rintro e W5 ⟨rfl, hb5⟩
  have k23 : W5.cell? ⟨w.heap.size, 0, none⟩ = some (.int .i64 a) := kept1 k15 hb5
  have k24 : W5.cell? ⟨w.heap.size, 1, none⟩ = some (.int .i64 b) := kept1 k16 hb5
  have k25 : W5.cell? ⟨w.heap.size + 1, 0, none⟩ = some (.int .i64 c) := kept1 k17 hb5
  have k26 : W5.cell? ⟨w.heap.size + 1, 1, none⟩ = some (.int .i64 d) := kept1 k18 hb5
  have k27 : W5.cell? ⟨W2.heap.size, 0, none⟩ = some (.int .i64 p) := kept1 k19 hb5
  have k28 : W5.cell? ⟨W2.heap.size, 1, none⟩ = some (.int .i64 q) := kept1 k20 hb5
  have k29 : W5.cell? ⟨W3.heap.size, 0, none⟩ = some (.int .i64 u) := kept1 k21 hb5
  have k30 : W5.cell? ⟨W3.heap.size, 1, none⟩ = some (.int .i64 v) := kept1 k22 hb5
  have lk23 : w.heap.size < W5.heap.size := block_lt_of_cell k23
  have lk25 : w.heap.size + 1 < W5.heap.size := block_lt_of_cell k25
  have lk27 : W2.heap.size < W5.heap.size := block_lt_of_cell k27
  have lk29 : W3.heap.size < W5.heap.size := block_lt_of_cell k29
  have hv5 : Below w.heap.size w W5 := bstep0 hv4 hb5
  clear hb5 hv4 k15 k16 k17 k18 k19 k20 k21 k22 lk15 lk17 lk19 lk21
  go_wp2_with fail
  refine (N2.out _).mono ?_
  rintro e W6 ⟨rfl, hb6⟩
  have k31 : W6.cell? ⟨w.heap.size, 0, none⟩ = some (.int .i64 a) := kept1 k23 hb6
  have k32 : W6.cell? ⟨w.heap.size, 1, none⟩ = some (.int .i64 b) := kept1 k24 hb6
  have k33 : W6.cell? ⟨w.heap.size + 1, 0, none⟩ = some (.int .i64 c) := kept1 k25 hb6
  have k34 : W6.cell? ⟨w.heap.size + 1, 1, none⟩ = some (.int .i64 d) := kept1 k26 hb6
  have k35 : W6.cell? ⟨W2.heap.size, 0, none⟩ = some (.int .i64 p) := kept1 k27 hb6
  have k36 : W6.cell? ⟨W2.heap.size, 1, none⟩ = some (.int .i64 q) := kept1 k28 hb6
  have k37 : W6.cell? ⟨W3.heap.size, 0, none⟩ = some (.int .i64 u) := kept1 k29 hb6
  have k38 : W6.cell? ⟨W3.heap.size, 1, none⟩ = some (.int .i64 v) := kept1 k30 hb6
  have lk31 : w.heap.size < W6.heap.size := block_lt_of_cell k31
  have lk33 : w.heap.size + 1 < W6.heap.size := block_lt_of_cell k33
  have lk35 : W2.heap.size < W6.heap.size := block_lt_of_cell k35
  have lk37 : W3.heap.size < W6.heap.size := block_lt_of_cell k37
  have hv6 : Below w.heap.size w W6 := bstep0 hv5 hb6
  clear hb6 hv5 k23 k24 k25 k26 k27 k28 k29 k30 lk23 lk25 lk27 lk29
  go_wp2
  go_ret
  exact ⟨by first | rfl | simp, (by repeat (first | with_reducible exact Below.refl _ _ | with_reducible assumption | refine below_drewN ?_ _ | refine Below.drew ?_ | refine Below.alloc ?_ (by first | (simp; done) | (simp; omega) | omega) _ | refine Below.setCell ?_ (by first | (simp; done) | (simp; omega) | omega) _ | refine Below.trans ?_ (Below.mono (by assumption) (by first | (simp; done) | (simp; omega) | omega))))⟩

theorem finish_vld {N D m : Int} (hv : Rt.vldP N D) (hM : m ≤ 100000) (hm : m < D) (k : Nat) : ∀ p q r s : Int, Rt.Nb N D m p q r s → (m + 1 - (q + s)).toNat ≤ k → ∃ x y, Rt.BestOf N D m x y ∧ Rt.vldP x y := by
  induction k with
  | zero =>
    intro p q r s h hk
    have b := h.bd hv hM hm
    by_cases hc : (N * q - p * D) * s ≤ (r * D - N * s) * q
    · exact ⟨_, _, h.best_lo hv.1 (by omega) hc, b.1⟩
    · exact ⟨_, _, h.best_hi hv.1 (by omega) hc, b.2.1⟩
  | succ k ih =>
    intro p q r s h hk
    have b := h.bd hv hM hm
    have h1 := h.q1; have h2 := h.s1
    by_cases hs : q + s ≤ m
    · by_cases hl : (p + r) * D < N * (q + s)
      · exact ih _ _ _ _ (h.low hs hl) (by omega)
      · exact ih _ _ _ _ (h.high hv hm hs hl) (by omega)
    · by_cases hc : (N * q - p * D) * s ≤ (r * D - N * s) * q
      · exact ⟨_, _, h.best_lo hv.1 (by omega) hc, b.1⟩
      · exact ⟨_, _, h.best_hi hv.1 (by omega) hc, b.2.1⟩

theorem best_fun (a b m : Int) (h : Rt.vldP a b) (m1 : 1 ≤ m) (m2 : m ≤ 100000) : ∃ x y, Rt.BestOf a b m x y ∧ Rt.vldP x y ∧ ∀ W : World, Calls Tryd.prog 52 #[.agg #[.int .i64 a, .int .i64 b], .int .i64 m] W fun e w' => e = .returned (numV ⟨x, y, 0⟩) ∧ Below W.heap.size W w' := by
  have hex : ∃ x y, Rt.BestOf a b m x y ∧ Rt.vldP x y := by
    by_cases hD : b ≤ m
    · exact ⟨a, b, Rt.best_self h.1 hD h.2.2.2.2, h⟩
    · exact finish_vld h m2 (by omega) _ _ _ _ _ (Rt.Nb.start h m1 (by omega)) (Nat.le_refl _)
  obtain ⟨x, y, hs, hv⟩ := hex
  exact ⟨x, y, hs, hv, fun W => (best_ok a b m h m1 m2 W).mono fun _ _ ⟨x', y', h1, _, he, hb⟩ => ⟨by obtain ⟨rfl, rfl⟩ := Rt.best_unique h1 hs; exact he, hb⟩⟩

theorem exactClosest_true (a b c d m k : Int) (_ : I64 a) (_ : I64 b) (_ : I64 c) (_ : I64 d) (_ : I64 m) (_ : I64 k) (w : World) (hT : Tab w.heap.size w) :
    Calls Tryd.prog 15 #[.agg #[.int .i64 a, .int .i64 b], .agg #[.int .i64 c, .int .i64 d], .int .i64 m, .int .i64 k] w fun e w' => e = .returned (.bool true) ∧ Below w.heap.size w w' := by
  replace hT := Lib.hid hT
  obtain ⟨t, ht, _, kt⟩ := valid_both a b
  obtain ⟨u, hu, _, ku⟩ := valid_both c d
  have KW := wrong_any a b c d t u (Lib.hid kt) (Lib.hid ku)
  by_cases hw : Rt.vldP a b ∧ Rt.vldP c d
  · obtain ⟨ha, hc⟩ := hw
    rw [ht.1 ha, hu.1 hc] at KW
    replace KW := Lib.hid KW
    by_cases h0 : m < 1
    · exact closest_out1 a b c d m k h0 KW w hT
    by_cases h1 : 3000 < m
    · exact closest_out2 a b c d m k (by omega) h1 KW w hT
    by_cases h2 : k < m
    · exact closest_out3 a b c d m k (by omega) (by omega) h2 KW w hT
    by_cases h3 : 3000 < k
    · exact closest_out4 a b c d m k (by omega) (by omega) (by omega) h3 KW w hT
    obtain ⟨p, q, b1, v1, H1⟩ := best_fun a b m ha (by omega) (by omega)
    obtain ⟨x, y, b2, v2, H2⟩ := best_fun a b k ha (by omega) (by omega)
    have ⟨k1, k2, _, k4⟩ := b1
    have ⟨l1, l2, _, l4⟩ := b2
    have N1 := Lib.hid fun W => near_yes a b x y p q ha v2 v1 (l4 p q k1 (by omega)).1 W
    by_cases hs : b ≤ m
    · obtain ⟨rfl, rfl⟩ := Rt.best_unique b1 (Rt.best_self ha.1 hs ha.2.2.2.2)
      by_cases hd : m < d
      · exact closest_SF p q c d m k x y (by omega) (by omega) (by omega) (by omega) KW (Lib.hid H1) (Lib.hid H2) k2 l2 N1 hd w hT
      · exact closest_SC p q c d m k x y (by omega) (by omega) (by omega) (by omega) KW (Lib.hid H1) (Lib.hid H2) k2 l2 N1 (by omega) (Lib.hid fun W => near_yes p q p q c d ha v1 hc (k4 c d hc.1 (by omega)).1 W) w hT
    · by_cases hd : m < d
      · exact closest_NF a b c d m k p q x y (by omega) (by omega) (by omega) (by omega) KW (Lib.hid H1) (Lib.hid H2) k2 l2 (by omega) N1 hd w hT
      · exact closest_NC a b c d m k p q x y (by omega) (by omega) (by omega) (by omega) KW (Lib.hid H1) (Lib.hid H2) k2 l2 (by omega) N1 (by omega) (Lib.hid fun W => near_yes a b p q c d ha v1 hc (k4 c d hc.1 (by omega)).1 W) w hT
  · have : (!t || !u) = true := by
      cases t <;> cases u <;> simp_all
    rw [this] at KW
    exact closest_out0 a b c d m k (Lib.hid KW) w hT
end Go.Proofs.YtpbomeoonknifaaDoor
