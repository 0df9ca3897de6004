/- The law ExactBack: the ways 1. -/
import Derived.Test.YtffabmojbelaaaaDoorLBack0
namespace Go.Proofs.YtffabmojbelaaaaDoor
open Go.RowKit Go.Shelf

set_option maxRecDepth 100000 in
set_option maxHeartbeats 4000000 in
theorem back_010 (a b : Int) (t : ByteArray) (ht : ¬ (60 : Int) < (t.size : Int)) (sa : Option Addr) (cap : Nat) (fn fd : Int) (l : List Int) (KV : Hid (∀ (W : World), Calls Tryd.prog 22 #[.agg #[.int .i64 a, .int .i64 b]] W fun e w' => e = .returned (.bool false) ∧ Below W.heap.size W w')) (HD : Hid (∀ (W : World), Calls Tryd.prog 44 #[.agg #[.int .i64 fn, .int .i64 fd]] W fun e w' => ∃ v, e = .returned (.tuple #[v, .int .i64 0]) ∧ Reads w' v l ∧ Below W.heap.size W w'))  (w : World) (HF : Hid (∀ (W : World), Below w.heap.size w W → Calls Tryd.prog 45 #[.slice sa 1 cap] W fun e w' => e = .returned (.tuple #[.agg #[.int .i64 fn, .int .i64 fd], .int .i64 0]) ∧ Below W.heap.size W w')) (hrl : Reads w (.slice sa 1 cap) l) (HQ : Hid (∀ (W : World), Below w.heap.size w W → Calls Tryd.prog 69 #[.string t] W fun e w' => e = .returned (.tuple #[.agg #[.int .i64 0, .int .i64 0], .int .i64 7]) ∧ Below W.heap.size W w')) (hT : Hid (Tab w.heap.size w)) :
    Calls Tryd.prog 13 #[.agg #[.int .i64 a, .int .i64 b], .slice sa 1 cap, .string t] w fun e w' => e = .returned (.bool true) ∧ Below w.heap.size w w' := by
  go_enter Tryd.func13, Tryd.ntmps13
  go_wp2_with fail
  refine (KV.out _).mono ?_
  rintro e W1 ⟨rfl, hb1⟩
  have k1 : W1.cell? ⟨w.heap.size, 0, none⟩ = some (.int .i64 a) := kept1 (by simp [go_sem]) hb1
  have k2 : W1.cell? ⟨w.heap.size, 1, none⟩ = some (.int .i64 b) := kept1 (by simp [go_sem]) hb1
  have lk1 : w.heap.size < W1.heap.size := block_lt_of_cell k1
  have hv1 : Below w.heap.size w W1 := bstep1 (Below.refl _ _) hb1
  clear hb1  
  go_wp2_with fail
  refine (HF.out _ hv1).mono ?_
  rintro e W2 ⟨rfl, hb2⟩
  have k3 : W2.cell? ⟨w.heap.size, 0, none⟩ = some (.int .i64 a) := kept1 k1 hb2
  have k4 : W2.cell? ⟨w.heap.size, 1, none⟩ = some (.int .i64 b) := kept1 k2 hb2
  have lk3 : w.heap.size < W2.heap.size := block_lt_of_cell k3
  have hv2 : Below w.heap.size w W2 := bstep0 hv1 hb2
  clear hb2 hv1 k1 k2 lk1
  go_wp2_with fail
  refine (HD.out _).mono ?_
  rintro e W3 ⟨v2, rfl, hr2, hb3⟩
  have k5 : W3.cell? ⟨w.heap.size, 0, none⟩ = some (.int .i64 a) := kept_a1 k3 hb3
  have k6 : W3.cell? ⟨w.heap.size, 1, none⟩ = some (.int .i64 b) := kept_a1 k4 hb3
  have k7 : W3.cell? ⟨W2.heap.size, 0, none⟩ = some (.int .i64 fn) := kept1 (by simp [go_sem]) hb3
  have k8 : W3.cell? ⟨W2.heap.size, 1, none⟩ = some (.int .i64 fd) := kept1 (by simp [go_sem]) hb3
  have lk5 : w.heap.size < W3.heap.size := block_lt_of_cell k5
  have lk7 : W2.heap.size < W3.heap.size := block_lt_of_cell k7
  have hv3 : Below w.heap.size w W3 := bstep1 hv2 hb3
  clear hb3 hv2 k3 k4 lk3
  go_wp2_with fail
  refine (same_bel v2 _ l _ hr2 (Reads.below hrl hv3)).mono ?_
  rintro e W4 ⟨rfl, hb4⟩
  have k9 : W4.cell? ⟨w.heap.size, 0, none⟩ = some (.int .i64 a) := kept1 k5 hb4
  have k10 : W4.cell? ⟨w.heap.size, 1, none⟩ = some (.int .i64 b) := kept1 k6 hb4
  have k11 : W4.cell? ⟨W2.heap.size, 0, none⟩ = some (.int .i64 fn) := kept1 k7 hb4
  have k12 : W4.cell? ⟨W2.heap.size, 1, none⟩ = some (.int .i64 fd) := kept1 k8 hb4
  have lk9 : w.heap.size < W4.heap.size := block_lt_of_cell k9
  have lk11 : W2.heap.size < W4.heap.size := block_lt_of_cell k11
  have hv4 : Below w.heap.size w W4 := bstep0 hv3 hb4
  clear hb4 hv3 k5 k6 k7 k8 lk5 lk7
  clear hr2
  go_wp2_with fail
  refine (HQ.out _ hv4).mono ?_
  rintro e W5 ⟨rfl, hb5⟩
  have k13 : W5.cell? ⟨w.heap.size, 0, none⟩ = some (.int .i64 a) := kept1 k9 hb5
  have k14 : W5.cell? ⟨w.heap.size, 1, none⟩ = some (.int .i64 b) := kept1 k10 hb5
  have k15 : W5.cell? ⟨W2.heap.size, 0, none⟩ = some (.int .i64 fn) := kept1 k11 hb5
  have k16 : W5.cell? ⟨W2.heap.size, 1, none⟩ = some (.int .i64 fd) := kept1 k12 hb5
  have lk13 : w.heap.size < W5.heap.size := block_lt_of_cell k13
  have lk15 : W2.heap.size < W5.heap.size := block_lt_of_cell k15
  have hv5 : Below w.heap.size w W5 := bstep0 hv4 hb5
  clear hb5 hv4 k9 k10 k11 k12 lk9 lk11
  go_wp2_with fail
  refine (sanity_tab hT _ (below_alloc hv5 _)).mono ?_
  rintro e W6 ⟨rfl, hb6⟩
  have k17 : W6.cell? ⟨w.heap.size, 0, none⟩ = some (.int .i64 a) := kept_a1 k13 hb6
  have k18 : W6.cell? ⟨w.heap.size, 1, none⟩ = some (.int .i64 b) := kept_a1 k14 hb6
  have k19 : W6.cell? ⟨W2.heap.size, 0, none⟩ = some (.int .i64 fn) := kept_a1 k15 hb6
  have k20 : W6.cell? ⟨W2.heap.size, 1, none⟩ = some (.int .i64 fd) := kept_a1 k16 hb6
  have k21 : W6.cell? ⟨W5.heap.size, 0, none⟩ = some (.int .i64 0) := kept1 (by simp [go_sem]) hb6
  have k22 : W6.cell? ⟨W5.heap.size, 1, none⟩ = some (.int .i64 0) := kept1 (by simp [go_sem]) hb6
  have lk17 : w.heap.size < W6.heap.size := block_lt_of_cell k17
  have lk19 : W2.heap.size < W6.heap.size := block_lt_of_cell k19
  have lk21 : W5.heap.size < W6.heap.size := block_lt_of_cell k21
  have hv6 : Below w.heap.size w W6 := bstep1 hv5 hb6
  clear hb6 hv5 k13 k14 k15 k16 lk13 lk15
  go_wp2
  go_ret
  exact ⟨by first | rfl | simp, (by repeat (first | with_reducible exact Below.refl _ _ | with_reducible assumption | refine below_drewN ?_ _ | refine Below.drew ?_ | refine Below.alloc ?_ (by first | (simp; done) | (simp; omega) | omega) _ | refine Below.setCell ?_ (by first | (simp; done) | (simp; omega) | omega) _ | refine Below.trans ?_ (Below.mono (by assumption) (by first | (simp; done) | (simp; omega) | omega))))⟩

set_option maxRecDepth 100000 in
set_option maxHeartbeats 4000000 in
theorem back_011 (a b : Int) (t : ByteArray) (ht : ¬ (60 : Int) < (t.size : Int)) (sa : Option Addr) (cap : Nat) (fn fd : Int) (l : List Int) (KV : Hid (∀ (W : World), Calls Tryd.prog 22 #[.agg #[.int .i64 a, .int .i64 b]] W fun e w' => e = .returned (.bool false) ∧ Below W.heap.size W w')) (HD : Hid (∀ (W : World), Calls Tryd.prog 44 #[.agg #[.int .i64 fn, .int .i64 fd]] W fun e w' => ∃ v, e = .returned (.tuple #[v, .int .i64 0]) ∧ Reads w' v l ∧ Below W.heap.size W w')) (qn qd : Int)  (w : World) (HF : Hid (∀ (W : World), Below w.heap.size w W → Calls Tryd.prog 45 #[.slice sa 1 cap] W fun e w' => e = .returned (.tuple #[.agg #[.int .i64 fn, .int .i64 fd], .int .i64 0]) ∧ Below W.heap.size W w')) (hrl : Reads w (.slice sa 1 cap) l) (HQ : Hid (∀ (W : World), Below w.heap.size w W → Calls Tryd.prog 69 #[.string t] W fun e w' => e = .returned (.tuple #[.agg #[.int .i64 qn, .int .i64 qd], .int .i64 0]) ∧ Below W.heap.size W w')) (HR : Hid (∀ (W : World), Below w.heap.size w W → Calls Tryd.prog 68 #[.agg #[.int .i64 qn, .int .i64 qd]] W fun e w' => e = .returned (.tuple #[.string t, .int .i64 0]) ∧ Below W.heap.size W w')) (hT : Hid (Tab w.heap.size w)) :
    Calls Tryd.prog 13 #[.agg #[.int .i64 a, .int .i64 b], .slice sa 1 cap, .string t] w fun e w' => e = .returned (.bool true) ∧ Below w.heap.size w w' := by
  go_enter Tryd.func13, Tryd.ntmps13
  go_wp2_with fail
  refine (KV.out _).mono ?_
  rintro e W1 ⟨rfl, hb1⟩
  have k1 : W1.cell? ⟨w.heap.size, 0, none⟩ = some (.int .i64 a) := kept1 (by simp [go_sem]) hb1
  have k2 : W1.cell? ⟨w.heap.size, 1, none⟩ = some (.int .i64 b) := kept1 (by simp [go_sem]) hb1
  have lk1 : w.heap.size < W1.heap.size := block_lt_of_cell k1
  have hv1 : Below w.heap.size w W1 := bstep1 (Below.refl _ _) hb1
  clear hb1  
  go_wp2_with fail
  refine (HF.out _ hv1).mono ?_
  rintro e W2 ⟨rfl, hb2⟩
  have k3 : W2.cell? ⟨w.heap.size, 0, none⟩ = some (.int .i64 a) := kept1 k1 hb2
  have k4 : W2.cell? ⟨w.heap.size, 1, none⟩ = some (.int .i64 b) := kept1 k2 hb2
  have lk3 : w.heap.size < W2.heap.size := block_lt_of_cell k3
  have hv2 : Below w.heap.size w W2 := bstep0 hv1 hb2
  clear hb2 hv1 k1 k2 lk1
  go_wp2_with fail
  refine (HD.out _).mono ?_
  rintro e W3 ⟨v2, rfl, hr2, hb3⟩
  have k5 : W3.cell? ⟨w.heap.size, 0, none⟩ = some (.int .i64 a) := kept_a1 k3 hb3
  have k6 : W3.cell? ⟨w.heap.size, 1, none⟩ = some (.int .i64 b) := kept_a1 k4 hb3
  have k7 : W3.cell? ⟨W2.heap.size, 0, none⟩ = some (.int .i64 fn) := kept1 (by simp [go_sem]) hb3
  have k8 : W3.cell? ⟨W2.heap.size, 1, none⟩ = some (.int .i64 fd) := kept1 (by simp [go_sem]) hb3
  have lk5 : w.heap.size < W3.heap.size := block_lt_of_cell k5
  have lk7 : W2.heap.size < W3.heap.size := block_lt_of_cell k7
  have hv3 : Below w.heap.size w W3 := bstep1 hv2 hb3
  clear hb3 hv2 k3 k4 lk3
  go_wp2_with fail
  refine (same_bel v2 _ l _ hr2 (Reads.below hrl hv3)).mono ?_
  rintro e W4 ⟨rfl, hb4⟩
  have k9 : W4.cell? ⟨w.heap.size, 0, none⟩ = some (.int .i64 a) := kept1 k5 hb4
  have k10 : W4.cell? ⟨w.heap.size, 1, none⟩ = some (.int .i64 b) := kept1 k6 hb4
  have k11 : W4.cell? ⟨W2.heap.size, 0, none⟩ = some (.int .i64 fn) := kept1 k7 hb4
  have k12 : W4.cell? ⟨W2.heap.size, 1, none⟩ = some (.int .i64 fd) := kept1 k8 hb4
  have lk9 : w.heap.size < W4.heap.size := block_lt_of_cell k9
  have lk11 : W2.heap.size < W4.heap.size := block_lt_of_cell k11
  have hv4 : Below w.heap.size w W4 := bstep0 hv3 hb4
  clear hb4 hv3 k5 k6 k7 k8 lk5 lk7
  clear hr2
  go_wp2_with fail
  refine (HQ.out _ hv4).mono ?_
  rintro e W5 ⟨rfl, hb5⟩
  have k13 : W5.cell? ⟨w.heap.size, 0, none⟩ = some (.int .i64 a) := kept1 k9 hb5
  have k14 : W5.cell? ⟨w.heap.size, 1, none⟩ = some (.int .i64 b) := kept1 k10 hb5
  have k15 : W5.cell? ⟨W2.heap.size, 0, none⟩ = some (.int .i64 fn) := kept1 k11 hb5
  have k16 : W5.cell? ⟨W2.heap.size, 1, none⟩ = some (.int .i64 fd) := kept1 k12 hb5
  have lk13 : w.heap.size < W5.heap.size := block_lt_of_cell k13
  have lk15 : W2.heap.size < W5.heap.size := block_lt_of_cell k15
  have hv5 : Below w.heap.size w W5 := bstep0 hv4 hb5
  clear hb5 hv4 k9 k10 k11 k12 lk9 lk11
  go_wp2_with fail
  refine (HR.out _ (below_alloc hv5 _)).mono ?_
  rintro e W6 ⟨rfl, hb6⟩
  have k17 : W6.cell? ⟨w.heap.size, 0, none⟩ = some (.int .i64 a) := kept_a1 k13 hb6
  have k18 : W6.cell? ⟨w.heap.size, 1, none⟩ = some (.int .i64 b) := kept_a1 k14 hb6
  have k19 : W6.cell? ⟨W2.heap.size, 0, none⟩ = some (.int .i64 fn) := kept_a1 k15 hb6
  have k20 : W6.cell? ⟨W2.heap.size, 1, none⟩ = some (.int .i64 fd) := kept_a1 k16 hb6
  have k21 : W6.cell? ⟨W5.heap.size, 0, none⟩ = some (.int .i64 qn) := kept1 (by simp [go_sem]) hb6
  have k22 : W6.cell? ⟨W5.heap.size, 1, none⟩ = some (.int .i64 qd) := kept1 (by simp [go_sem]) hb6
  have lk17 : w.heap.size < W6.heap.size := block_lt_of_cell k17
  have lk19 : W2.heap.size < W6.heap.size := block_lt_of_cell k19
  have lk21 : W5.heap.size < W6.heap.size := block_lt_of_cell k21
  have hv6 : Below w.heap.size w W6 := bstep1 hv5 hb6
  clear hb6 hv5 k13 k14 k15 k16 lk13 lk15
  go_wp2_with fail
  refine (sanity_tab hT _ hv6).mono ?_
  rintro e W7 ⟨rfl, hb7⟩
  have k23 : W7.cell? ⟨w.heap.size, 0, none⟩ = some (.int .i64 a) := kept1 k17 hb7
  have k24 : W7.cell? ⟨w.heap.size, 1, none⟩ = some (.int .i64 b) := kept1 k18 hb7
  have k25 : W7.cell? ⟨W2.heap.size, 0, none⟩ = some (.int .i64 fn) := kept1 k19 hb7
  have k26 : W7.cell? ⟨W2.heap.size, 1, none⟩ = some (.int .i64 fd) := kept1 k20 hb7
  have k27 : W7.cell? ⟨W5.heap.size, 0, none⟩ = some (.int .i64 qn) := kept1 k21 hb7
  have k28 : W7.cell? ⟨W5.heap.size, 1, none⟩ = some (.int .i64 qd) := kept1 k22 hb7
  have lk23 : w.heap.size < W7.heap.size := block_lt_of_cell k23
  have lk25 : W2.heap.size < W7.heap.size := block_lt_of_cell k25
  have lk27 : W5.heap.size < W7.heap.size := block_lt_of_cell k27
  have hv7 : Below w.heap.size w W7 := bstep0 hv6 hb7
  clear hb7 hv6 k17 k18 k19 k20 k21 k22 lk17 lk19 lk21
  go_wp2
  go_ret
  exact ⟨by first | rfl | simp, (by repeat (first | with_reducible exact Below.refl _ _ | with_reducible assumption | refine below_drewN ?_ _ | refine Below.drew ?_ | refine Below.alloc ?_ (by first | (simp; done) | (simp; omega) | omega) _ | refine Below.setCell ?_ (by first | (simp; done) | (simp; omega) | omega) _ | refine Below.trans ?_ (Below.mono (by assumption) (by first | (simp; done) | (simp; omega) | omega))))⟩

set_option maxRecDepth 100000 in
set_option maxHeartbeats 4000000 in
theorem back_110 (a b : Int) (t : ByteArray) (ht : ¬ (60 : Int) < (t.size : Int)) (sa : Option Addr) (cap : Nat) (fn fd : Int) (l : List Int) (L : List Int) (hL : ¬ (50 : Int) < (L.length : Int)) (T : ByteArray) (HE : Hid (∀ (W : World), Calls Tryd.prog 44 #[.agg #[.int .i64 a, .int .i64 b]] W fun e w' => ∃ sa2 cap2, e = .returned (.tuple #[.slice sa2 L.length cap2, .int .i64 0]) ∧ RowF w' sa2 cap2 L ∧ Below W.heap.size W w')) (HG : Hid (∀ (W : World) (sa2 : Option Addr) (cap2 : Nat), RowF W sa2 cap2 L → Calls Tryd.prog 45 #[.slice sa2 L.length cap2] W fun e w' => e = .returned (.tuple #[.agg #[.int .i64 a, .int .i64 b], .int .i64 0]) ∧ Below W.heap.size W w')) (KV : Hid (∀ (W : World), Calls Tryd.prog 22 #[.agg #[.int .i64 a, .int .i64 b]] W fun e w' => e = .returned (.bool true) ∧ Below W.heap.size W w')) (HD : Hid (∀ (W : World), Calls Tryd.prog 44 #[.agg #[.int .i64 fn, .int .i64 fd]] W fun e w' => ∃ v, e = .returned (.tuple #[v, .int .i64 0]) ∧ Reads w' v l ∧ Below W.heap.size W w'))  (w : World) (HP : Hid (∀ (W : World), Below w.heap.size w W → Calls Tryd.prog 68 #[.agg #[.int .i64 a, .int .i64 b]] W fun e w' => e = .returned (.tuple #[.string T, .int .i64 0]) ∧ Below W.heap.size W w')) (HX : Hid (∀ (W : World), Below w.heap.size w W → Calls Tryd.prog 69 #[.string T] W fun e w' => e = .returned (.tuple #[.agg #[.int .i64 a, .int .i64 b], .int .i64 0]) ∧ Below W.heap.size W w')) (HF : Hid (∀ (W : World), Below w.heap.size w W → Calls Tryd.prog 45 #[.slice sa 1 cap] W fun e w' => e = .returned (.tuple #[.agg #[.int .i64 fn, .int .i64 fd], .int .i64 0]) ∧ Below W.heap.size W w')) (hrl : Reads w (.slice sa 1 cap) l) (HQ : Hid (∀ (W : World), Below w.heap.size w W → Calls Tryd.prog 69 #[.string t] W fun e w' => e = .returned (.tuple #[.agg #[.int .i64 0, .int .i64 0], .int .i64 7]) ∧ Below W.heap.size W w')) (hT : Hid (Tab w.heap.size w)) :
    Calls Tryd.prog 13 #[.agg #[.int .i64 a, .int .i64 b], .slice sa 1 cap, .string t] w fun e w' => e = .returned (.bool true) ∧ Below w.heap.size w w' := by
  go_enter Tryd.func13, Tryd.ntmps13
  go_wp2_with fail
  refine (KV.out _).mono ?_
  rintro e W1 ⟨rfl, hb1⟩
  have k1 : W1.cell? ⟨w.heap.size, 0, none⟩ = some (.int .i64 a) := kept1 (by simp [go_sem]) hb1
  have k2 : W1.cell? ⟨w.heap.size, 1, none⟩ = some (.int .i64 b) := kept1 (by simp [go_sem]) hb1
  have lk1 : w.heap.size < W1.heap.size := block_lt_of_cell k1
  have hv1 : Below w.heap.size w W1 := bstep1 (Below.refl _ _) hb1
  clear hb1  
  go_wp2_with fail
  refine (HE.out _).mono ?_
  rintro e W2 ⟨sa2, cap2, rfl, hr1, hb2⟩
  have k3 : W2.cell? ⟨w.heap.size, 0, none⟩ = some (.int .i64 a) := kept1 k1 hb2
  have k4 : W2.cell? ⟨w.heap.size, 1, none⟩ = some (.int .i64 b) := kept1 k2 hb2
  have lk3 : w.heap.size < W2.heap.size := block_lt_of_cell k3
  have hv2 : Below w.heap.size w W2 := bstep0 hv1 hb2
  clear hb2 hv1 k1 k2 lk1
  go_wp2_with fail
  refine (HG.out _ _ _ hr1).mono ?_
  rintro e W3 ⟨rfl, hb3⟩
  have k5 : W3.cell? ⟨w.heap.size, 0, none⟩ = some (.int .i64 a) := kept1 k3 hb3
  have k6 : W3.cell? ⟨w.heap.size, 1, none⟩ = some (.int .i64 b) := kept1 k4 hb3
  have lk5 : w.heap.size < W3.heap.size := block_lt_of_cell k5
  have hv3 : Below w.heap.size w W3 := bstep0 hv2 hb3
  clear hb3 hv2 k3 k4 lk3
  clear hr1
  go_wp2_with fail
  refine (HP.out _ (below_alloc hv3 _)).mono ?_
  rintro e W4 ⟨rfl, hb4⟩
  have k7 : W4.cell? ⟨w.heap.size, 0, none⟩ = some (.int .i64 a) := kept_a1 k5 hb4
  have k8 : W4.cell? ⟨w.heap.size, 1, none⟩ = some (.int .i64 b) := kept_a1 k6 hb4
  have k9 : W4.cell? ⟨W3.heap.size, 0, none⟩ = some (.int .i64 a) := kept1 (by simp [go_sem]) hb4
  have k10 : W4.cell? ⟨W3.heap.size, 1, none⟩ = some (.int .i64 b) := kept1 (by simp [go_sem]) hb4
  have lk7 : w.heap.size < W4.heap.size := block_lt_of_cell k7
  have lk9 : W3.heap.size < W4.heap.size := block_lt_of_cell k9
  have hv4 : Below w.heap.size w W4 := bstep1 hv3 hb4
  clear hb4 hv3 k5 k6 lk5
  go_wp2_with fail
  refine (HX.out _ hv4).mono ?_
  rintro e W5 ⟨rfl, hb5⟩
  have k11 : W5.cell? ⟨w.heap.size, 0, none⟩ = some (.int .i64 a) := kept1 k7 hb5
  have k12 : W5.cell? ⟨w.heap.size, 1, none⟩ = some (.int .i64 b) := kept1 k8 hb5
  have k13 : W5.cell? ⟨W3.heap.size, 0, none⟩ = some (.int .i64 a) := kept1 k9 hb5
  have k14 : W5.cell? ⟨W3.heap.size, 1, none⟩ = some (.int .i64 b) := kept1 k10 hb5
  have lk11 : w.heap.size < W5.heap.size := block_lt_of_cell k11
  have lk13 : W3.heap.size < W5.heap.size := block_lt_of_cell k13
  have hv5 : Below w.heap.size w W5 := bstep0 hv4 hb5
  clear hb5 hv4 k7 k8 k9 k10 lk7 lk9
  go_wp2_with fail
  refine (HF.out _ (below_alloc hv5 _)).mono ?_
  rintro e W6 ⟨rfl, hb6⟩
  have k15 : W6.cell? ⟨w.heap.size, 0, none⟩ = some (.int .i64 a) := kept_a1 k11 hb6
  have k16 : W6.cell? ⟨w.heap.size, 1, none⟩ = some (.int .i64 b) := kept_a1 k12 hb6
  have k17 : W6.cell? ⟨W3.heap.size, 0, none⟩ = some (.int .i64 a) := kept_a1 k13 hb6
  have k18 : W6.cell? ⟨W3.heap.size, 1, none⟩ = some (.int .i64 b) := kept_a1 k14 hb6
  have k19 : W6.cell? ⟨W5.heap.size, 0, none⟩ = some (.int .i64 a) := kept1 (by simp [go_sem]) hb6
  have k20 : W6.cell? ⟨W5.heap.size, 1, none⟩ = some (.int .i64 b) := kept1 (by simp [go_sem]) hb6
  have lk15 : w.heap.size < W6.heap.size := block_lt_of_cell k15
  have lk17 : W3.heap.size < W6.heap.size := block_lt_of_cell k17
  have lk19 : W5.heap.size < W6.heap.size := block_lt_of_cell k19
  have hv6 : Below w.heap.size w W6 := bstep1 hv5 hb6
  clear hb6 hv5 k11 k12 k13 k14 lk11 lk13
  go_wp2_with fail
  refine (HD.out _).mono ?_
  rintro e W7 ⟨v2, rfl, hr2, hb7⟩
  have k21 : W7.cell? ⟨w.heap.size, 0, none⟩ = some (.int .i64 a) := kept_a1 k15 hb7
  have k22 : W7.cell? ⟨w.heap.size, 1, none⟩ = some (.int .i64 b) := kept_a1 k16 hb7
  have k23 : W7.cell? ⟨W3.heap.size, 0, none⟩ = some (.int .i64 a) := kept_a1 k17 hb7
  have k24 : W7.cell? ⟨W3.heap.size, 1, none⟩ = some (.int .i64 b) := kept_a1 k18 hb7
  have k25 : W7.cell? ⟨W5.heap.size, 0, none⟩ = some (.int .i64 a) := kept_a1 k19 hb7
  have k26 : W7.cell? ⟨W5.heap.size, 1, none⟩ = some (.int .i64 b) := kept_a1 k20 hb7
  have k27 : W7.cell? ⟨W6.heap.size, 0, none⟩ = some (.int .i64 fn) := kept1 (by simp [go_sem]) hb7
  have k28 : W7.cell? ⟨W6.heap.size, 1, none⟩ = some (.int .i64 fd) := kept1 (by simp [go_sem]) hb7
  have lk21 : w.heap.size < W7.heap.size := block_lt_of_cell k21
  have lk23 : W3.heap.size < W7.heap.size := block_lt_of_cell k23
  have lk25 : W5.heap.size < W7.heap.size := block_lt_of_cell k25
  have lk27 : W6.heap.size < W7.heap.size := block_lt_of_cell k27
  have hv7 : Below w.heap.size w W7 := bstep1 hv6 hb7
  clear hb7 hv6 k15 k16 k17 k18 k19 k20 lk15 lk17 lk19
  go_wp2_with fail
  refine (same_bel v2 _ l _ hr2 (Reads.below hrl hv7)).mono ?_
  rintro e W8 ⟨rfl, hb8⟩
  have k29 : W8.cell? ⟨w.heap.size, 0, none⟩ = some (.int .i64 a) := kept1 k21 hb8
  have k30 : W8.cell? ⟨w.heap.size, 1, none⟩ = some (.int .i64 b) := kept1 k22 hb8
  have k31 : W8.cell? ⟨W3.heap.size, 0, none⟩ = some (.int .i64 a) := kept1 k23 hb8
  have k32 : W8.cell? ⟨W3.heap.size, 1, none⟩ = some (.int .i64 b) := kept1 k24 hb8
  have k33 : W8.cell? ⟨W5.heap.size, 0, none⟩ = some (.int .i64 a) := kept1 k25 hb8
  have k34 : W8.cell? ⟨W5.heap.size, 1, none⟩ = some (.int .i64 b) := kept1 k26 hb8
  have k35 : W8.cell? ⟨W6.heap.size, 0, none⟩ = some (.int .i64 fn) := kept1 k27 hb8
  have k36 : W8.cell? ⟨W6.heap.size, 1, none⟩ = some (.int .i64 fd) := kept1 k28 hb8
  have lk29 : w.heap.size < W8.heap.size := block_lt_of_cell k29
  have lk31 : W3.heap.size < W8.heap.size := block_lt_of_cell k31
  have lk33 : W5.heap.size < W8.heap.size := block_lt_of_cell k33
  have lk35 : W6.heap.size < W8.heap.size := block_lt_of_cell k35
  have hv8 : Below w.heap.size w W8 := bstep0 hv7 hb8
  clear hb8 hv7 k21 k22 k23 k24 k25 k26 k27 k28 lk21 lk23 lk25 lk27
  clear hr2
  go_wp2_with fail
  refine (HQ.out _ hv8).mono ?_
  rintro e W9 ⟨rfl, hb9⟩
  have k37 : W9.cell? ⟨w.heap.size, 0, none⟩ = some (.int .i64 a) := kept1 k29 hb9
  have k38 : W9.cell? ⟨w.heap.size, 1, none⟩ = some (.int .i64 b) := kept1 k30 hb9
  have k39 : W9.cell? ⟨W3.heap.size, 0, none⟩ = some (.int .i64 a) := kept1 k31 hb9
  have k40 : W9.cell? ⟨W3.heap.size, 1, none⟩ = some (.int .i64 b) := kept1 k32 hb9
  have k41 : W9.cell? ⟨W5.heap.size, 0, none⟩ = some (.int .i64 a) := kept1 k33 hb9
  have k42 : W9.cell? ⟨W5.heap.size, 1, none⟩ = some (.int .i64 b) := kept1 k34 hb9
  have k43 : W9.cell? ⟨W6.heap.size, 0, none⟩ = some (.int .i64 fn) := kept1 k35 hb9
  have k44 : W9.cell? ⟨W6.heap.size, 1, none⟩ = some (.int .i64 fd) := kept1 k36 hb9
  have lk37 : w.heap.size < W9.heap.size := block_lt_of_cell k37
  have lk39 : W3.heap.size < W9.heap.size := block_lt_of_cell k39
  have lk41 : W5.heap.size < W9.heap.size := block_lt_of_cell k41
  have lk43 : W6.heap.size < W9.heap.size := block_lt_of_cell k43
  have hv9 : Below w.heap.size w W9 := bstep0 hv8 hb9
  clear hb9 hv8 k29 k30 k31 k32 k33 k34 k35 k36 lk29 lk31 lk33 lk35
  go_wp2_with fail
  refine (sanity_tab hT _ (below_alloc hv9 _)).mono ?_
  rintro e W10 ⟨rfl, hb10⟩
  have k45 : W10.cell? ⟨w.heap.size, 0, none⟩ = some (.int .i64 a) := kept_a1 k37 hb10
  have k46 : W10.cell? ⟨w.heap.size, 1, none⟩ = some (.int .i64 b) := kept_a1 k38 hb10
  have k47 : W10.cell? ⟨W3.heap.size, 0, none⟩ = some (.int .i64 a) := kept_a1 k39 hb10
  have k48 : W10.cell? ⟨W3.heap.size, 1, none⟩ = some (.int .i64 b) := kept_a1 k40 hb10
  have k49 : W10.cell? ⟨W5.heap.size, 0, none⟩ = some (.int .i64 a) := kept_a1 k41 hb10
  have k50 : W10.cell? ⟨W5.heap.size, 1, none⟩ = some (.int .i64 b) := kept_a1 k42 hb10
  have k51 : W10.cell? ⟨W6.heap.size, 0, none⟩ = some (.int .i64 fn) := kept_a1 k43 hb10
  have k52 : W10.cell? ⟨W6.heap.size, 1, none⟩ = some (.int .i64 fd) := kept_a1 k44 hb10
  have k53 : W10.cell? ⟨W9.heap.size, 0, none⟩ = some (.int .i64 0) := kept1 (by simp [go_sem]) hb10
  have k54 : W10.cell? ⟨W9.heap.size, 1, none⟩ = some (.int .i64 0) := kept1 (by simp [go_sem]) hb10
  have lk45 : w.heap.size < W10.heap.size := block_lt_of_cell k45
  have lk47 : W3.heap.size < W10.heap.size := block_lt_of_cell k47
  have lk49 : W5.heap.size < W10.heap.size := block_lt_of_cell k49
  have lk51 : W6.heap.size < W10.heap.size := block_lt_of_cell k51
  have lk53 : W9.heap.size < W10.heap.size := block_lt_of_cell k53
  have hv10 : Below w.heap.size w W10 := bstep1 hv9 hb10
  clear hb10 hv9 k37 k38 k39 k40 k41 k42 k43 k44 lk37 lk39 lk41 lk43
  go_wp2
  go_ret
  exact ⟨by first | rfl | simp, (by repeat (first | with_reducible exact Below.refl _ _ | with_reducible assumption | refine below_drewN ?_ _ | refine Below.drew ?_ | refine Below.alloc ?_ (by first | (simp; done) | (simp; omega) | omega) _ | refine Below.setCell ?_ (by first | (simp; done) | (simp; omega) | omega) _ | refine Below.trans ?_ (Below.mono (by assumption) (by first | (simp; done) | (simp; omega) | omega))))⟩

set_option maxRecDepth 100000 in
set_option maxHeartbeats 4000000 in
theorem back_111 (a b : Int) (t : ByteArray) (ht : ¬ (60 : Int) < (t.size : Int)) (sa : Option Addr) (cap : Nat) (fn fd : Int) (l : List Int) (L : List Int) (hL : ¬ (50 : Int) < (L.length : Int)) (T : ByteArray) (HE : Hid (∀ (W : World), Calls Tryd.prog 44 #[.agg #[.int .i64 a, .int .i64 b]] W fun e w' => ∃ sa2 cap2, e = .returned (.tuple #[.slice sa2 L.length cap2, .int .i64 0]) ∧ RowF w' sa2 cap2 L ∧ Below W.heap.size W w')) (HG : Hid (∀ (W : World) (sa2 : Option Addr) (cap2 : Nat), RowF W sa2 cap2 L → Calls Tryd.prog 45 #[.slice sa2 L.length cap2] W fun e w' => e = .returned (.tuple #[.agg #[.int .i64 a, .int .i64 b], .int .i64 0]) ∧ Below W.heap.size W w')) (KV : Hid (∀ (W : World), Calls Tryd.prog 22 #[.agg #[.int .i64 a, .int .i64 b]] W fun e w' => e = .returned (.bool true) ∧ Below W.heap.size W w')) (HD : Hid (∀ (W : World), Calls Tryd.prog 44 #[.agg #[.int .i64 fn, .int .i64 fd]] W fun e w' => ∃ v, e = .returned (.tuple #[v, .int .i64 0]) ∧ Reads w' v l ∧ Below W.heap.size W w')) (qn qd : Int)  (w : World) (HP : Hid (∀ (W : World), Below w.heap.size w W → Calls Tryd.prog 68 #[.agg #[.int .i64 a, .int .i64 b]] W fun e w' => e = .returned (.tuple #[.string T, .int .i64 0]) ∧ Below W.heap.size W w')) (HX : Hid (∀ (W : World), Below w.heap.size w W → Calls Tryd.prog 69 #[.string T] W fun e w' => e = .returned (.tuple #[.agg #[.int .i64 a, .int .i64 b], .int .i64 0]) ∧ Below W.heap.size W w')) (HF : Hid (∀ (W : World), Below w.heap.size w W → Calls Tryd.prog 45 #[.slice sa 1 cap] W fun e w' => e = .returned (.tuple #[.agg #[.int .i64 fn, .int .i64 fd], .int .i64 0]) ∧ Below W.heap.size W w')) (hrl : Reads w (.slice sa 1 cap) l) (HQ : Hid (∀ (W : World), Below w.heap.size w W → Calls Tryd.prog 69 #[.string t] W fun e w' => e = .returned (.tuple #[.agg #[.int .i64 qn, .int .i64 qd], .int .i64 0]) ∧ Below W.heap.size W w')) (HR : Hid (∀ (W : World), Below w.heap.size w W → Calls Tryd.prog 68 #[.agg #[.int .i64 qn, .int .i64 qd]] W fun e w' => e = .returned (.tuple #[.string t, .int .i64 0]) ∧ Below W.heap.size W w')) (hT : Hid (Tab w.heap.size w)) :
    Calls Tryd.prog 13 #[.agg #[.int .i64 a, .int .i64 b], .slice sa 1 cap, .string t] w fun e w' => e = .returned (.bool true) ∧ Below w.heap.size w w' := by
  go_enter Tryd.func13, Tryd.ntmps13
  go_wp2_with fail
  refine (KV.out _).mono ?_
  rintro e W1 ⟨rfl, hb1⟩
  have k1 : W1.cell? ⟨w.heap.size, 0, none⟩ = some (.int .i64 a) := kept1 (by simp [go_sem]) hb1
  have k2 : W1.cell? ⟨w.heap.size, 1, none⟩ = some (.int .i64 b) := kept1 (by simp [go_sem]) hb1
  have lk1 : w.heap.size < W1.heap.size := block_lt_of_cell k1
  have hv1 : Below w.heap.size w W1 := bstep1 (Below.refl _ _) hb1
  clear hb1  
  go_wp2_with fail
  refine (HE.out _).mono ?_
  rintro e W2 ⟨sa2, cap2, rfl, hr1, hb2⟩
  have k3 : W2.cell? ⟨w.heap.size, 0, none⟩ = some (.int .i64 a) := kept1 k1 hb2
  have k4 : W2.cell? ⟨w.heap.size, 1, none⟩ = some (.int .i64 b) := kept1 k2 hb2
  have lk3 : w.heap.size < W2.heap.size := block_lt_of_cell k3
  have hv2 : Below w.heap.size w W2 := bstep0 hv1 hb2
  clear hb2 hv1 k1 k2 lk1
  go_wp2_with fail
  refine (HG.out _ _ _ hr1).mono ?_
  rintro e W3 ⟨rfl, hb3⟩
  have k5 : W3.cell? ⟨w.heap.size, 0, none⟩ = some (.int .i64 a) := kept1 k3 hb3
  have k6 : W3.cell? ⟨w.heap.size, 1, none⟩ = some (.int .i64 b) := kept1 k4 hb3
  have lk5 : w.heap.size < W3.heap.size := block_lt_of_cell k5
  have hv3 : Below w.heap.size w W3 := bstep0 hv2 hb3
  clear hb3 hv2 k3 k4 lk3
  clear hr1
  go_wp2_with fail
  refine (HP.out _ (below_alloc hv3 _)).mono ?_
  rintro e W4 ⟨rfl, hb4⟩
  have k7 : W4.cell? ⟨w.heap.size, 0, none⟩ = some (.int .i64 a) := kept_a1 k5 hb4
  have k8 : W4.cell? ⟨w.heap.size, 1, none⟩ = some (.int .i64 b) := kept_a1 k6 hb4
  have k9 : W4.cell? ⟨W3.heap.size, 0, none⟩ = some (.int .i64 a) := kept1 (by simp [go_sem]) hb4
  have k10 : W4.cell? ⟨W3.heap.size, 1, none⟩ = some (.int .i64 b) := kept1 (by simp [go_sem]) hb4
  have lk7 : w.heap.size < W4.heap.size := block_lt_of_cell k7
  have lk9 : W3.heap.size < W4.heap.size := block_lt_of_cell k9
  have hv4 : Below w.heap.size w W4 := bstep1 hv3 hb4
  clear hb4 hv3 k5 k6 lk5
  go_wp2_with fail
  refine (HX.out _ hv4).mono ?_
  rintro e W5 ⟨rfl, hb5⟩
  have k11 : W5.cell? ⟨w.heap.size, 0, none⟩ = some (.int .i64 a) := kept1 k7 hb5
  have k12 : W5.cell? ⟨w.heap.size, 1, none⟩ = some (.int .i64 b) := kept1 k8 hb5
  have k13 : W5.cell? ⟨W3.heap.size, 0, none⟩ = some (.int .i64 a) := kept1 k9 hb5
  have k14 : W5.cell? ⟨W3.heap.size, 1, none⟩ = some (.int .i64 b) := kept1 k10 hb5
  have lk11 : w.heap.size < W5.heap.size := block_lt_of_cell k11
  have lk13 : W3.heap.size < W5.heap.size := block_lt_of_cell k13
  have hv5 : Below w.heap.size w W5 := bstep0 hv4 hb5
  clear hb5 hv4 k7 k8 k9 k10 lk7 lk9
  go_wp2_with fail
  refine (HF.out _ (below_alloc hv5 _)).mono ?_
  rintro e W6 ⟨rfl, hb6⟩
  have k15 : W6.cell? ⟨w.heap.size, 0, none⟩ = some (.int .i64 a) := kept_a1 k11 hb6
  have k16 : W6.cell? ⟨w.heap.size, 1, none⟩ = some (.int .i64 b) := kept_a1 k12 hb6
  have k17 : W6.cell? ⟨W3.heap.size, 0, none⟩ = some (.int .i64 a) := kept_a1 k13 hb6
  have k18 : W6.cell? ⟨W3.heap.size, 1, none⟩ = some (.int .i64 b) := kept_a1 k14 hb6
  have k19 : W6.cell? ⟨W5.heap.size, 0, none⟩ = some (.int .i64 a) := kept1 (by simp [go_sem]) hb6
  have k20 : W6.cell? ⟨W5.heap.size, 1, none⟩ = some (.int .i64 b) := kept1 (by simp [go_sem]) hb6
  have lk15 : w.heap.size < W6.heap.size := block_lt_of_cell k15
  have lk17 : W3.heap.size < W6.heap.size := block_lt_of_cell k17
  have lk19 : W5.heap.size < W6.heap.size := block_lt_of_cell k19
  have hv6 : Below w.heap.size w W6 := bstep1 hv5 hb6
  clear hb6 hv5 k11 k12 k13 k14 lk11 lk13
  go_wp2_with fail
  refine (HD.out _).mono ?_
  rintro e W7 ⟨v2, rfl, hr2, hb7⟩
  have k21 : W7.cell? ⟨w.heap.size, 0, none⟩ = some (.int .i64 a) := kept_a1 k15 hb7
  have k22 : W7.cell? ⟨w.heap.size, 1, none⟩ = some (.int .i64 b) := kept_a1 k16 hb7
  have k23 : W7.cell? ⟨W3.heap.size, 0, none⟩ = some (.int .i64 a) := kept_a1 k17 hb7
  have k24 : W7.cell? ⟨W3.heap.size, 1, none⟩ = some (.int .i64 b) := kept_a1 k18 hb7
  have k25 : W7.cell? ⟨W5.heap.size, 0, none⟩ = some (.int .i64 a) := kept_a1 k19 hb7
  have k26 : W7.cell? ⟨W5.heap.size, 1, none⟩ = some (.int .i64 b) := kept_a1 k20 hb7
  have k27 : W7.cell? ⟨W6.heap.size, 0, none⟩ = some (.int .i64 fn) := kept1 (by simp [go_sem]) hb7
  have k28 : W7.cell? ⟨W6.heap.size, 1, none⟩ = some (.int .i64 fd) := kept1 (by simp [go_sem]) hb7
  have lk21 : w.heap.size < W7.heap.size := block_lt_of_cell k21
  have lk23 : W3.heap.size < W7.heap.size := block_lt_of_cell k23
  have lk25 : W5.heap.size < W7.heap.size := block_lt_of_cell k25
  have lk27 : W6.heap.size < W7.heap.size := block_lt_of_cell k27
  have hv7 : Below w.heap.size w W7 := bstep1 hv6 hb7
  clear hb7 hv6 k15 k16 k17 k18 k19 k20 lk15 lk17 lk19
  go_wp2_with fail
  refine (same_bel v2 _ l _ hr2 (Reads.below hrl hv7)).mono ?_
  rintro e W8 ⟨rfl, hb8⟩
  have k29 : W8.cell? ⟨w.heap.size, 0, none⟩ = some (.int .i64 a) := kept1 k21 hb8
  have k30 : W8.cell? ⟨w.heap.size, 1, none⟩ = some (.int .i64 b) := kept1 k22 hb8
  have k31 : W8.cell? ⟨W3.heap.size, 0, none⟩ = some (.int .i64 a) := kept1 k23 hb8
  have k32 : W8.cell? ⟨W3.heap.size, 1, none⟩ = some (.int .i64 b) := kept1 k24 hb8
  have k33 : W8.cell? ⟨W5.heap.size, 0, none⟩ = some (.int .i64 a) := kept1 k25 hb8
  have k34 : W8.cell? ⟨W5.heap.size, 1, none⟩ = some (.int .i64 b) := kept1 k26 hb8
  have k35 : W8.cell? ⟨W6.heap.size, 0, none⟩ = some (.int .i64 fn) := kept1 k27 hb8
  have k36 : W8.cell? ⟨W6.heap.size, 1, none⟩ = some (.int .i64 fd) := kept1 k28 hb8
  have lk29 : w.heap.size < W8.heap.size := block_lt_of_cell k29
  have lk31 : W3.heap.size < W8.heap.size := block_lt_of_cell k31
  have lk33 : W5.heap.size < W8.heap.size := block_lt_of_cell k33
  have lk35 : W6.heap.size < W8.heap.size := block_lt_of_cell k35
  have hv8 : Below w.heap.size w W8 := bstep0 hv7 hb8
  clear hb8 hv7 k21 k22 k23 k24 k25 k26 k27 k28 lk21 lk23 lk25 lk27
  clear hr2
  go_wp2_with fail
  refine (HQ.out _ hv8).mono ?_
  rintro e W9 ⟨rfl, hb9⟩
  have k37 : W9.cell? ⟨w.heap.size, 0, none⟩ = some (.int .i64 a) := kept1 k29 hb9
  have k38 : W9.cell? ⟨w.heap.size, 1, none⟩ = some (.int .i64 b) := kept1 k30 hb9
  have k39 : W9.cell? ⟨W3.heap.size, 0, none⟩ = some (.int .i64 a) := kept1 k31 hb9
  have k40 : W9.cell? ⟨W3.heap.size, 1, none⟩ = some (.int .i64 b) := kept1 k32 hb9
  have k41 : W9.cell? ⟨W5.heap.size, 0, none⟩ = some (.int .i64 a) := kept1 k33 hb9
  have k42 : W9.cell? ⟨W5.heap.size, 1, none⟩ = some (.int .i64 b) := kept1 k34 hb9
  have k43 : W9.cell? ⟨W6.heap.size, 0, none⟩ = some (.int .i64 fn) := kept1 k35 hb9
  have k44 : W9.cell? ⟨W6.heap.size, 1, none⟩ = some (.int .i64 fd) := kept1 k36 hb9
  have lk37 : w.heap.size < W9.heap.size := block_lt_of_cell k37
  have lk39 : W3.heap.size < W9.heap.size := block_lt_of_cell k39
  have lk41 : W5.heap.size < W9.heap.size := block_lt_of_cell k41
  have lk43 : W6.heap.size < W9.heap.size := block_lt_of_cell k43
  have hv9 : Below w.heap.size w W9 := bstep0 hv8 hb9
  clear hb9 hv8 k29 k30 k31 k32 k33 k34 k35 k36 lk29 lk31 lk33 lk35
  go_wp2_with fail
  refine (HR.out _ (below_alloc hv9 _)).mono ?_
  rintro e W10 ⟨rfl, hb10⟩
  have k45 : W10.cell? ⟨w.heap.size, 0, none⟩ = some (.int .i64 a) := kept_a1 k37 hb10
  have k46 : W10.cell? ⟨w.heap.size, 1, none⟩ = some (.int .i64 b) := kept_a1 k38 hb10
  have k47 : W10.cell? ⟨W3.heap.size, 0, none⟩ = some (.int .i64 a) := kept_a1 k39 hb10
  have k48 : W10.cell? ⟨W3.heap.size, 1, none⟩ = some (.int .i64 b) := kept_a1 k40 hb10
  have k49 : W10.cell? ⟨W5.heap.size, 0, none⟩ = some (.int .i64 a) := kept_a1 k41 hb10
  have k50 : W10.cell? ⟨W5.heap.size, 1, none⟩ = some (.int .i64 b) := kept_a1 k42 hb10
  have k51 : W10.cell? ⟨W6.heap.size, 0, none⟩ = some (.int .i64 fn) := kept_a1 k43 hb10
  have k52 : W10.cell? ⟨W6.heap.size, 1, none⟩ = some (.int .i64 fd) := kept_a1 k44 hb10
  have k53 : W10.cell? ⟨W9.heap.size, 0, none⟩ = some (.int .i64 qn) := kept1 (by simp [go_sem]) hb10
  have k54 : W10.cell? ⟨W9.heap.size, 1, none⟩ = some (.int .i64 qd) := kept1 (by simp [go_sem]) hb10
  have lk45 : w.heap.size < W10.heap.size := block_lt_of_cell k45
  have lk47 : W3.heap.size < W10.heap.size := block_lt_of_cell k47
  have lk49 : W5.heap.size < W10.heap.size := block_lt_of_cell k49
  have lk51 : W6.heap.size < W10.heap.size := block_lt_of_cell k51
  have lk53 : W9.heap.size < W10.heap.size := block_lt_of_cell k53
  have hv10 : Below w.heap.size w W10 := bstep1 hv9 hb10
  clear hb10 hv9 k37 k38 k39 k40 k41 k42 k43 k44 lk37 lk39 lk41 lk43
  go_wp2_with fail
  refine (sanity_tab hT _ hv10).mono ?_
  rintro e W11 ⟨rfl, hb11⟩
  have k55 : W11.cell? ⟨w.heap.size, 0, none⟩ = some (.int .i64 a) := kept1 k45 hb11
  have k56 : W11.cell? ⟨w.heap.size, 1, none⟩ = some (.int .i64 b) := kept1 k46 hb11
  have k57 : W11.cell? ⟨W3.heap.size, 0, none⟩ = some (.int .i64 a) := kept1 k47 hb11
  have k58 : W11.cell? ⟨W3.heap.size, 1, none⟩ = some (.int .i64 b) := kept1 k48 hb11
  have k59 : W11.cell? ⟨W5.heap.size, 0, none⟩ = some (.int .i64 a) := kept1 k49 hb11
  have k60 : W11.cell? ⟨W5.heap.size, 1, none⟩ = some (.int .i64 b) := kept1 k50 hb11
  have k61 : W11.cell? ⟨W6.heap.size, 0, none⟩ = some (.int .i64 fn) := kept1 k51 hb11
  have k62 : W11.cell? ⟨W6.heap.size, 1, none⟩ = some (.int .i64 fd) := kept1 k52 hb11
  have k63 : W11.cell? ⟨W9.heap.size, 0, none⟩ = some (.int .i64 qn) := kept1 k53 hb11
  have k64 : W11.cell? ⟨W9.heap.size, 1, none⟩ = some (.int .i64 qd) := kept1 k54 hb11
  have lk55 : w.heap.size < W11.heap.size := block_lt_of_cell k55
  have lk57 : W3.heap.size < W11.heap.size := block_lt_of_cell k57
  have lk59 : W5.heap.size < W11.heap.size := block_lt_of_cell k59
  have lk61 : W6.heap.size < W11.heap.size := block_lt_of_cell k61
  have lk63 : W9.heap.size < W11.heap.size := block_lt_of_cell k63
  have hv11 : Below w.heap.size w W11 := bstep0 hv10 hb11
  clear hb11 hv10 k45 k46 k47 k48 k49 k50 k51 k52 k53 k54 lk45 lk47 lk49 lk51 lk53
  go_wp2
  go_ret
  exact ⟨by first | rfl | simp, (by repeat (first | with_reducible exact Below.refl _ _ | with_reducible assumption | refine below_drewN ?_ _ | refine Below.drew ?_ | refine Below.alloc ?_ (by first | (simp; done) | (simp; omega) | omega) _ | refine Below.setCell ?_ (by first | (simp; done) | (simp; omega) | omega) _ | refine Below.trans ?_ (Below.mono (by assumption) (by first | (simp; done) | (simp; omega) | omega))))⟩

end Go.Proofs.YtffabmojbelaaaaDoor
