/- The law ExactTexts: it returns true. -/
import Derived.Test.YtffabmojbelaaaaDoorSz
import Derived.Test.YtffabmojbelaaaaDoorXq
import Derived.Test.YtffabmojbelaaaaDoorRr
import Derived.Test.YtffabmojbelaaaaDoorSn
import Derived.Test.YtffabmojbelaaaaDoorDc
import Derived.Test.YtffabmojbelaaaaDoorYb
namespace Go.Proofs.YtffabmojbelaaaaDoor
open Go.RowKit Go.Shelf

set_option maxRecDepth 100000 in
set_option maxHeartbeats 2000000 in
theorem texts_long (a b : Int) (t : ByteArray) (hm : (60 : Int) < (t.size : Int)) (w : World)  (hT : Hid (Tab w.heap.size w)) :
    Calls Tryd.prog 10 #[.agg #[.int .i64 a, .int .i64 b], .string t] w fun e w' => e = .returned (.bool true) ∧ Below w.heap.size w w' := by
  go_enter Tryd.func10, Tryd.ntmps10
  go_wp2_with fail
  refine (sanity_tab hT _ (below_alloc (Below.refl _ _) _)).mono ?_
  rintro e W1 ⟨rfl, hb1⟩
  have k1 : W1.cell? ⟨w.heap.size, 0, none⟩ = some (.int .i64 a) := kept1 (by simp [go_sem]) hb1
  have k2 : W1.cell? ⟨w.heap.size, 1, none⟩ = some (.int .i64 b) := kept1 (by simp [go_sem]) hb1
  have lk1 : w.heap.size < W1.heap.size := block_lt_of_cell k1
  have hv1 : Below w.heap.size w W1 := bstep1 (Below.refl _ _) hb1
  clear hb1  
  go_wp2
  go_ret
  exact ⟨by first | rfl | simp, (by repeat (first | with_reducible exact Below.refl _ _ | with_reducible assumption | refine below_drewN ?_ _ | refine Below.drew ?_ | refine Below.alloc ?_ (by first | (simp; done) | (simp; omega) | omega) _ | refine Below.setCell ?_ (by first | (simp; done) | (simp; omega) | omega) _ | refine Below.trans ?_ (Below.mono (by assumption) (by first | (simp; done) | (simp; omega) | omega))))⟩

set_option maxRecDepth 100000 in
set_option maxHeartbeats 4000000 in
theorem texts_bad (a b : Int) (t : ByteArray) (hm : ¬ (60 : Int) < (t.size : Int)) (r : Rt.Num) (HE : Hid (∀ W : World, Calls Tryd.prog 68 #[.agg #[.int .i64 a, .int .i64 b]] W fun e w' => e = .returned (.tuple #[.string { data := #[] }, .int .i64 1]) ∧ Below W.heap.size W w')) (KX : Hid (∀ W : World, Calls Tryd.prog 70 #[.string t] W fun e w' => e = .returned (.agg #[.int .i64 r.n, .int .i64 r.d, .int .i64 r.e]) ∧ Below W.heap.size W w')) (KV : Hid (∀ W : World, Calls Tryd.prog 22 #[.agg #[.int .i64 a, .int .i64 b]] W fun e w' => e = .returned (.bool false) ∧ Below W.heap.size W w')) (w : World) (HX : Hid (∀ W : World, Below w.heap.size w W → Calls Tryd.prog 69 #[.string t] W fun e w' => e = .returned (.tuple #[.agg #[.int .i64 r.n, .int .i64 r.d], .int .i64 r.e]) ∧ Below W.heap.size W w')) (hT : Hid (Tab w.heap.size w)) :
    Calls Tryd.prog 10 #[.agg #[.int .i64 a, .int .i64 b], .string t] w fun e w' => e = .returned (.bool true) ∧ Below w.heap.size w w' := by
  go_enter Tryd.func10, Tryd.ntmps10
  go_wp2_with fail
  refine (HE.out _).mono ?_
  rintro e W1 ⟨rfl, hb1⟩
  have k1 : W1.cell? ⟨w.heap.size, 0, none⟩ = some (.int .i64 a) := kept1 (by simp [go_sem]) hb1
  have k2 : W1.cell? ⟨w.heap.size, 1, none⟩ = some (.int .i64 b) := kept1 (by simp [go_sem]) hb1
  have lk1 : w.heap.size < W1.heap.size := block_lt_of_cell k1
  have hv1 : Below w.heap.size w W1 := bstep1 (Below.refl _ _) hb1
  clear hb1  
  go_wp2_with fail
  refine (HX.out _ hv1).mono ?_
  rintro e W2 ⟨rfl, hb2⟩
  have k3 : W2.cell? ⟨w.heap.size, 0, none⟩ = some (.int .i64 a) := kept1 k1 hb2
  have k4 : W2.cell? ⟨w.heap.size, 1, none⟩ = some (.int .i64 b) := kept1 k2 hb2
  have lk3 : w.heap.size < W2.heap.size := block_lt_of_cell k3
  have hv2 : Below w.heap.size w W2 := bstep0 hv1 hb2
  clear hb2 hv1 k1 k2 lk1
  go_upto_region 5 with fail
  have k5 : (W2.alloc (Obj.cells #[.int .i64 r.n, .int .i64 r.d] 23)).cell? ⟨w.heap.size, 0, none⟩ = some (.int .i64 a) := (cell_alloc k3 _)
  have k6 : (W2.alloc (Obj.cells #[.int .i64 r.n, .int .i64 r.d] 23)).cell? ⟨w.heap.size, 1, none⟩ = some (.int .i64 b) := (cell_alloc k4 _)
  have k7 : (W2.alloc (Obj.cells #[.int .i64 r.n, .int .i64 r.d] 23)).cell? ⟨W2.heap.size, 0, none⟩ = some (.int .i64 r.n) := by simp [go_sem]
  have k8 : (W2.alloc (Obj.cells #[.int .i64 r.n, .int .i64 r.d] 23)).cell? ⟨W2.heap.size, 1, none⟩ = some (.int .i64 r.d) := by simp [go_sem]
  have lk5 : w.heap.size < (W2.alloc (Obj.cells #[.int .i64 r.n, .int .i64 r.d] 23)).heap.size := block_lt_of_cell k5
  have lk7 : W2.heap.size < (W2.alloc (Obj.cells #[.int .i64 r.n, .int .i64 r.d] 23)).heap.size := block_lt_of_cell k7
  have hv3 : Below w.heap.size w (W2.alloc (Obj.cells #[.int .i64 r.n, .int .i64 r.d] 23)) := (below_alloc hv2 _)
  clear hv2 k3 k4 lk3
  generalize (W2.alloc (Obj.cells #[.int .i64 r.n, .int .i64 r.d] 23)) = X3 at *
  have hTX : Hid (Tab X3.drew.heap.size X3.drew) := Lib.hid (Lib.tabBelow_of_tabIs (hT.out.on hv3.drew).here)
  go_cut [28] from 23 to 28 (fun s28 wx => s28 = .bool false ∧ wx.cell? ⟨w.heap.size, 0, none⟩ = some (.int .i64 a) ∧ wx.cell? ⟨w.heap.size, 1, none⟩ = some (.int .i64 b) ∧ wx.cell? ⟨W2.heap.size, 0, none⟩ = some (.int .i64 r.n) ∧ wx.cell? ⟨W2.heap.size, 1, none⟩ = some (.int .i64 r.d) ∧ Below w.heap.size w wx)
  case first =>
    have hvd : Below w.heap.size w X3.drew := hv3.drew
    have hu : undef = Value.tuple #[] := rfl
    first | (go_region_with (first
        | (go_at_call 70
           refine (KX.out _).mono ?_
           rintro e wp ⟨he, hbp⟩
           subst he
           have q0 : wp.cell? ⟨w.heap.size, 0, none⟩ = some (.int .i64 a) := kept1 (by assumption) hbp
           have q1 : wp.cell? ⟨w.heap.size, 1, none⟩ = some (.int .i64 b) := kept1 (by assumption) hbp
           have q2 : wp.cell? ⟨W2.heap.size, 0, none⟩ = some (.int .i64 r.n) := kept1 (by assumption) hbp
           have q3 : wp.cell? ⟨W2.heap.size, 1, none⟩ = some (.int .i64 r.d) := kept1 (by assumption) hbp
           have hvp : Below w.heap.size w wp := keep0 (by assumption) hbp
           skip)
        | (go_at_call 19
           refine (is_yes _ _ _ _).mono ?_
           rintro e wp ⟨he, hbp⟩
           subst he
           have q0 : wp.cell? ⟨w.heap.size, 0, none⟩ = some (.int .i64 a) := kept1 (by assumption) hbp
           have q1 : wp.cell? ⟨w.heap.size, 1, none⟩ = some (.int .i64 b) := kept1 (by assumption) hbp
           have q2 : wp.cell? ⟨W2.heap.size, 0, none⟩ = some (.int .i64 r.n) := kept1 (by assumption) hbp
           have q3 : wp.cell? ⟨W2.heap.size, 1, none⟩ = some (.int .i64 r.d) := kept1 (by assumption) hbp
           have hvp : Below w.heap.size w wp := keep0 (by assumption) hbp
           skip))) | fail
    all_goals
      go_wp2_with fail
      go_meet
      exact ⟨rfl, q0, q1, q2, q3, hvp⟩
  case rest =>
    generalize wc = V4 at hcut ⊢
    clear wc
    obtain ⟨rfl, k9, k10, k11, k12, hv4⟩ := hcut
    clear hv3 k5 k6 k7 k8 lk5 lk7
    have lk9 : w.heap.size < V4.heap.size := block_lt_of_cell k9
    have lk11 : W2.heap.size < V4.heap.size := block_lt_of_cell k11
    go_wp2_with fail
    refine (KV.out _).mono ?_
    rintro e W5 ⟨rfl, hb5⟩
    have k13 : W5.cell? ⟨w.heap.size, 0, none⟩ = some (.int .i64 a) := kept1 k9 hb5
    have k14 : W5.cell? ⟨w.heap.size, 1, none⟩ = some (.int .i64 b) := kept1 k10 hb5
    have k15 : W5.cell? ⟨W2.heap.size, 0, none⟩ = some (.int .i64 r.n) := kept1 k11 hb5
    have k16 : W5.cell? ⟨W2.heap.size, 1, none⟩ = some (.int .i64 r.d) := kept1 k12 hb5
    have lk13 : w.heap.size < W5.heap.size := block_lt_of_cell k13
    have lk15 : W2.heap.size < W5.heap.size := block_lt_of_cell k15
    have hv5 : Below w.heap.size w W5 := bstep0 hv4 hb5
    clear hb5 hv4 k9 k10 k11 k12 lk9 lk11
    go_wp2_with fail
    refine (sanity_tab hT _ hv5).mono ?_
    rintro e W6 ⟨rfl, hb6⟩
    have k17 : W6.cell? ⟨w.heap.size, 0, none⟩ = some (.int .i64 a) := kept1 k13 hb6
    have k18 : W6.cell? ⟨w.heap.size, 1, none⟩ = some (.int .i64 b) := kept1 k14 hb6
    have k19 : W6.cell? ⟨W2.heap.size, 0, none⟩ = some (.int .i64 r.n) := kept1 k15 hb6
    have k20 : W6.cell? ⟨W2.heap.size, 1, none⟩ = some (.int .i64 r.d) := kept1 k16 hb6
    have lk17 : w.heap.size < W6.heap.size := block_lt_of_cell k17
    have lk19 : W2.heap.size < W6.heap.size := block_lt_of_cell k19
    have hv6 : Below w.heap.size w W6 := bstep0 hv5 hb6
    clear hb6 hv5 k13 k14 k15 k16 lk13 lk15
    go_wp2
    go_ret
    exact ⟨by first | rfl | simp, (by repeat (first | with_reducible exact Below.refl _ _ | with_reducible assumption | refine below_drewN ?_ _ | refine Below.drew ?_ | refine Below.alloc ?_ (by first | (simp; done) | (simp; omega) | omega) _ | refine Below.setCell ?_ (by first | (simp; done) | (simp; omega) | omega) _ | refine Below.trans ?_ (Below.mono (by assumption) (by first | (simp; done) | (simp; omega) | omega))))⟩

set_option maxRecDepth 100000 in
set_option maxHeartbeats 4000000 in
theorem texts_ok (a b : Int) (t : ByteArray) (hm : ¬ (60 : Int) < (t.size : Int)) (r : Rt.Num) (T : ByteArray) (KX : Hid (∀ W : World, Calls Tryd.prog 70 #[.string t] W fun e w' => e = .returned (.agg #[.int .i64 r.n, .int .i64 r.d, .int .i64 r.e]) ∧ Below W.heap.size W w')) (KV : Hid (∀ W : World, Calls Tryd.prog 22 #[.agg #[.int .i64 a, .int .i64 b]] W fun e w' => e = .returned (.bool true) ∧ Below W.heap.size W w')) (KP : Hid (∀ W : World, Calls Tryd.prog 71 #[.agg #[.int .i64 a, .int .i64 b]] W fun e w' => e = .returned (.string T) ∧ Below W.heap.size W w')) (w : World) (HE : Hid (∀ W : World, Below w.heap.size w W → Calls Tryd.prog 68 #[.agg #[.int .i64 a, .int .i64 b]] W fun e w' => e = .returned (.tuple #[.string T, .int .i64 0]) ∧ Below W.heap.size W w')) (HX : Hid (∀ W : World, Below w.heap.size w W → Calls Tryd.prog 69 #[.string t] W fun e w' => e = .returned (.tuple #[.agg #[.int .i64 r.n, .int .i64 r.d], .int .i64 r.e]) ∧ Below W.heap.size W w')) (hT : Hid (Tab w.heap.size w)) :
    Calls Tryd.prog 10 #[.agg #[.int .i64 a, .int .i64 b], .string t] w fun e w' => e = .returned (.bool true) ∧ Below w.heap.size w w' := by
  go_enter Tryd.func10, Tryd.ntmps10
  go_wp2_with fail
  refine (HE.out _ (below_alloc (Below.refl _ _) _)).mono ?_
  rintro e W1 ⟨rfl, hb1⟩
  have k1 : W1.cell? ⟨w.heap.size, 0, none⟩ = some (.int .i64 a) := kept1 (by simp [go_sem]) hb1
  have k2 : W1.cell? ⟨w.heap.size, 1, none⟩ = some (.int .i64 b) := kept1 (by simp [go_sem]) hb1
  have lk1 : w.heap.size < W1.heap.size := block_lt_of_cell k1
  have hv1 : Below w.heap.size w W1 := bstep1 (Below.refl _ _) hb1
  clear hb1  
  go_wp2_with fail
  refine (HX.out _ hv1).mono ?_
  rintro e W2 ⟨rfl, hb2⟩
  have k3 : W2.cell? ⟨w.heap.size, 0, none⟩ = some (.int .i64 a) := kept1 k1 hb2
  have k4 : W2.cell? ⟨w.heap.size, 1, none⟩ = some (.int .i64 b) := kept1 k2 hb2
  have lk3 : w.heap.size < W2.heap.size := block_lt_of_cell k3
  have hv2 : Below w.heap.size w W2 := bstep0 hv1 hb2
  clear hb2 hv1 k1 k2 lk1
  go_upto_region 5 with fail
  have k5 : (W2.alloc (Obj.cells #[.int .i64 r.n, .int .i64 r.d] 23)).cell? ⟨w.heap.size, 0, none⟩ = some (.int .i64 a) := (cell_alloc k3 _)
  have k6 : (W2.alloc (Obj.cells #[.int .i64 r.n, .int .i64 r.d] 23)).cell? ⟨w.heap.size, 1, none⟩ = some (.int .i64 b) := (cell_alloc k4 _)
  have k7 : (W2.alloc (Obj.cells #[.int .i64 r.n, .int .i64 r.d] 23)).cell? ⟨W2.heap.size, 0, none⟩ = some (.int .i64 r.n) := by simp [go_sem]
  have k8 : (W2.alloc (Obj.cells #[.int .i64 r.n, .int .i64 r.d] 23)).cell? ⟨W2.heap.size, 1, none⟩ = some (.int .i64 r.d) := by simp [go_sem]
  have lk5 : w.heap.size < (W2.alloc (Obj.cells #[.int .i64 r.n, .int .i64 r.d] 23)).heap.size := block_lt_of_cell k5
  have lk7 : W2.heap.size < (W2.alloc (Obj.cells #[.int .i64 r.n, .int .i64 r.d] 23)).heap.size := block_lt_of_cell k7
  have hv3 : Below w.heap.size w (W2.alloc (Obj.cells #[.int .i64 r.n, .int .i64 r.d] 23)) := (below_alloc hv2 _)
  clear hv2 k3 k4 lk3
  generalize (W2.alloc (Obj.cells #[.int .i64 r.n, .int .i64 r.d] 23)) = X3 at *
  have hTX : Hid (Tab X3.drew.heap.size X3.drew) := Lib.hid (Lib.tabBelow_of_tabIs (hT.out.on hv3.drew).here)
  go_cut [28] from 23 to 28 (fun s28 wx => s28 = .bool false ∧ wx.cell? ⟨w.heap.size, 0, none⟩ = some (.int .i64 a) ∧ wx.cell? ⟨w.heap.size, 1, none⟩ = some (.int .i64 b) ∧ wx.cell? ⟨W2.heap.size, 0, none⟩ = some (.int .i64 r.n) ∧ wx.cell? ⟨W2.heap.size, 1, none⟩ = some (.int .i64 r.d) ∧ Below w.heap.size w wx)
  case first =>
    have hvd : Below w.heap.size w X3.drew := hv3.drew
    have hu : undef = Value.tuple #[] := rfl
    first | (go_region_with (first
        | (go_at_call 70
           refine (KX.out _).mono ?_
           rintro e wp ⟨he, hbp⟩
           subst he
           have q0 : wp.cell? ⟨w.heap.size, 0, none⟩ = some (.int .i64 a) := kept1 (by assumption) hbp
           have q1 : wp.cell? ⟨w.heap.size, 1, none⟩ = some (.int .i64 b) := kept1 (by assumption) hbp
           have q2 : wp.cell? ⟨W2.heap.size, 0, none⟩ = some (.int .i64 r.n) := kept1 (by assumption) hbp
           have q3 : wp.cell? ⟨W2.heap.size, 1, none⟩ = some (.int .i64 r.d) := kept1 (by assumption) hbp
           have hvp : Below w.heap.size w wp := keep0 (by assumption) hbp
           skip)
        | (go_at_call 19
           refine (is_yes _ _ _ _).mono ?_
           rintro e wp ⟨he, hbp⟩
           subst he
           have q0 : wp.cell? ⟨w.heap.size, 0, none⟩ = some (.int .i64 a) := kept1 (by assumption) hbp
           have q1 : wp.cell? ⟨w.heap.size, 1, none⟩ = some (.int .i64 b) := kept1 (by assumption) hbp
           have q2 : wp.cell? ⟨W2.heap.size, 0, none⟩ = some (.int .i64 r.n) := kept1 (by assumption) hbp
           have q3 : wp.cell? ⟨W2.heap.size, 1, none⟩ = some (.int .i64 r.d) := kept1 (by assumption) hbp
           have hvp : Below w.heap.size w wp := keep0 (by assumption) hbp
           skip))) | fail
    all_goals
      go_wp2_with fail
      go_meet
      exact ⟨rfl, q0, q1, q2, q3, hvp⟩
  case rest =>
    generalize wc = V4 at hcut ⊢
    clear wc
    obtain ⟨rfl, k9, k10, k11, k12, hv4⟩ := hcut
    clear hv3 k5 k6 k7 k8 lk5 lk7
    have lk9 : w.heap.size < V4.heap.size := block_lt_of_cell k9
    have lk11 : W2.heap.size < V4.heap.size := block_lt_of_cell k11
    go_wp2_with fail
    refine (KV.out _).mono ?_
    rintro e W5 ⟨rfl, hb5⟩
    have k13 : W5.cell? ⟨w.heap.size, 0, none⟩ = some (.int .i64 a) := kept1 k9 hb5
    have k14 : W5.cell? ⟨w.heap.size, 1, none⟩ = some (.int .i64 b) := kept1 k10 hb5
    have k15 : W5.cell? ⟨W2.heap.size, 0, none⟩ = some (.int .i64 r.n) := kept1 k11 hb5
    have k16 : W5.cell? ⟨W2.heap.size, 1, none⟩ = some (.int .i64 r.d) := kept1 k12 hb5
    have lk13 : w.heap.size < W5.heap.size := block_lt_of_cell k13
    have lk15 : W2.heap.size < W5.heap.size := block_lt_of_cell k15
    have hv5 : Below w.heap.size w W5 := bstep0 hv4 hb5
    clear hb5 hv4 k9 k10 k11 k12 lk9 lk11
    go_wp2_with fail
    refine (sanity_tab hT _ hv5).mono ?_
    rintro e W6 ⟨rfl, hb6⟩
    have k17 : W6.cell? ⟨w.heap.size, 0, none⟩ = some (.int .i64 a) := kept1 k13 hb6
    have k18 : W6.cell? ⟨w.heap.size, 1, none⟩ = some (.int .i64 b) := kept1 k14 hb6
    have k19 : W6.cell? ⟨W2.heap.size, 0, none⟩ = some (.int .i64 r.n) := kept1 k15 hb6
    have k20 : W6.cell? ⟨W2.heap.size, 1, none⟩ = some (.int .i64 r.d) := kept1 k16 hb6
    have lk17 : w.heap.size < W6.heap.size := block_lt_of_cell k17
    have lk19 : W2.heap.size < W6.heap.size := block_lt_of_cell k19
    have hv6 : Below w.heap.size w W6 := bstep0 hv5 hb6
    clear hb6 hv5 k13 k14 k15 k16 lk13 lk15
    go_wp2_with fail
    refine (KP.out _).mono ?_
    rintro e W7 ⟨rfl, hb7⟩
    have k21 : W7.cell? ⟨w.heap.size, 0, none⟩ = some (.int .i64 a) := kept1 k17 hb7
    have k22 : W7.cell? ⟨w.heap.size, 1, none⟩ = some (.int .i64 b) := kept1 k18 hb7
    have k23 : W7.cell? ⟨W2.heap.size, 0, none⟩ = some (.int .i64 r.n) := kept1 k19 hb7
    have k24 : W7.cell? ⟨W2.heap.size, 1, none⟩ = some (.int .i64 r.d) := kept1 k20 hb7
    have lk21 : w.heap.size < W7.heap.size := block_lt_of_cell k21
    have lk23 : W2.heap.size < W7.heap.size := block_lt_of_cell k23
    have hv7 : Below w.heap.size w W7 := bstep0 hv6 hb7
    clear hb7 hv6 k17 k18 k19 k20 lk17 lk19
    go_wp2
    go_ret
    exact ⟨by first | rfl | simp, (by repeat (first | with_reducible exact Below.refl _ _ | with_reducible assumption | refine below_drewN ?_ _ | refine Below.drew ?_ | refine Below.alloc ?_ (by first | (simp; done) | (simp; omega) | omega) _ | refine Below.setCell ?_ (by first | (simp; done) | (simp; omega) | omega) _ | refine Below.trans ?_ (Below.mono (by assumption) (by first | (simp; done) | (simp; omega) | omega))))⟩

theorem exactTexts_true (a b : Int) (t : ByteArray) (_ : I64 a) (_ : I64 b) (_ : t.size ≤ maxLen) (w : World) (hT : Tab w.heap.size w) (V : Vars w) :
    Calls Tryd.prog 10 #[.agg #[.int .i64 a, .int .i64 b], .string t] w fun e w' => e = .returned (.bool true) ∧ Below w.heap.size w w' := by
  by_cases hm : (60 : Int) < (t.size : Int)
  · exact texts_long a b t hm w (Lib.hid hT)
  · have HX : ∀ W : World, Below w.heap.size w W → Calls Tryd.prog 69 #[.string t] W fun e w' => e = .returned (numV (Rt.parseX t.data.toList)) ∧ Below W.heap.size W w' := fun W hb =>
      xparse_any t (by omega) W (V.on hb) (Lib.hid (Lib.tabBelow_of_tabIs (hT.on hb).here))
    have KX : ∀ W : World, Calls Tryd.prog 70 #[.string t] W fun e w' => e = .returned (refV (Rt.parseX t.data.toList)) ∧ Below W.heap.size W w' := fun W => by
      rw [(Rt.parseX_is t.data.toList).unique (Rt.parseR_is _)]
      exact rparse_any t (by omega) W
    by_cases hv : Rt.vldP a b
    · exact texts_ok a b t hm _ _ (Lib.hid KX) (Lib.hid fun W => rvalid_yes a b W hv) (Lib.hid fun W => rprint a b hv W) w (print_on a b hv w (Lib.hid hT)) (Lib.hid HX) (Lib.hid hT)
    · exact texts_bad a b t hm _ (Lib.hid fun W => print_bad a b hv W) (Lib.hid KX) (Lib.hid fun W => rvalid_not a b W hv) w (Lib.hid HX) (Lib.hid hT)
end Go.Proofs.YtffabmojbelaaaaDoor
