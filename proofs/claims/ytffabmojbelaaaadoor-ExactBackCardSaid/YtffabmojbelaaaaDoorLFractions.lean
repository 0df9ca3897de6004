/- The law ExactFractions: it returns true. -/
import Derived.Test.YtffabmojbelaaaaDoorSz
import Derived.Test.YtffabmojbelaaaaDoorRo
import Derived.Test.YtffabmojbelaaaaDoorEx
import Derived.Test.YtffabmojbelaaaaDoorSn
import Derived.Test.YtffabmojbelaaaaDoorY
namespace Go.Proofs.YtffabmojbelaaaaDoor
open Go.RowKit Go.Shelf

theorem same_bel (v1 v2 : Value) (l : List Int) (w : World) (h1 : Reads w v1 l) (h2 : Reads w v2 l) :
    Calls Tryd.prog 47 #[v1, v2] w fun e w' => e = .returned (.bool true) ∧ Below w.heap.size w w' :=
  (same_yes v1 v2 l w h1 h2).mono fun e w' ⟨he, m, hw⟩ => ⟨he, by rw [hw]; exact drewN_below m⟩

set_option maxRecDepth 100000 in
set_option maxHeartbeats 2000000 in
theorem frac_long (a b : Int) (sa : Option Addr) (m cap : Nat) (hm : (60 : Int) < (m : Int)) (w : World)  (hT : Hid (Tab w.heap.size w)) :
    Calls Tryd.prog 6 #[.agg #[.int .i64 a, .int .i64 b], .slice sa m cap] w fun e w' => e = .returned (.bool true) ∧ Below w.heap.size w w' := by
  go_enter Tryd.func6, Tryd.ntmps6
  go_wp2_with fail
  refine (sanity_tab hT _ (below_alloc (Below.refl _ _) _)).mono ?_
  rintro e W1 ⟨rfl, hb1⟩
  have k1 : W1.cell? ⟨w.heap.size, 0, none⟩ = some (.int .i64 a) := kept1 (by simp [go_sem]) hb1
  have k2 : W1.cell? ⟨w.heap.size, 1, none⟩ = some (.int .i64 b) := kept1 (by simp [go_sem]) hb1
  have lk1 : w.heap.size < W1.heap.size := block_lt_of_cell k1
  have hv1 : Below w.heap.size w W1 := bstep1 (Below.refl _ _) hb1
  clear hb1  
  go_wp2
  go_ret
  exact ⟨by first | rfl | simp, (by repeat (first | with_reducible exact Below.refl _ _ | with_reducible assumption | refine below_drewN ?_ _ | refine Below.drew ?_ | refine Below.alloc ?_ (by first | (simp; done) | (simp; omega) | omega) _ | refine Below.setCell ?_ (by first | (simp; done) | (simp; omega) | omega) _ | refine Below.trans ?_ (Below.mono (by assumption) (by first | (simp; done) | (simp; omega) | omega))))⟩

set_option maxRecDepth 100000 in
set_option maxHeartbeats 4000000 in
theorem frac_bad (a b : Int) (sa : Option Addr) (m cap : Nat) (hm : ¬ (60 : Int) < (m : Int)) (r : Rt.Num) (HE : Hid (∀ W : World, Calls Tryd.prog 44 #[.agg #[.int .i64 a, .int .i64 b]] W fun e w' => e = .returned (.tuple #[.slice none 0 0, .int .i64 1]) ∧ Below W.heap.size W w')) (KV : Hid (∀ W : World, Calls Tryd.prog 22 #[.agg #[.int .i64 a, .int .i64 b]] W fun e w' => e = .returned (.bool false) ∧ Below W.heap.size W w')) (w : World) (HF : Hid (∀ W : World, Below w.heap.size w W → Calls Tryd.prog 45 #[.slice sa m cap] W fun e w' => e = .returned (.tuple #[.agg #[.int .i64 r.n, .int .i64 r.d], .int .i64 r.e]) ∧ Below W.heap.size W w')) (KF : Hid (∀ W : World, Below w.heap.size w W → Calls Tryd.prog 46 #[.slice sa m cap] W fun e w' => e = .returned (.agg #[.int .i64 r.n, .int .i64 r.d, .int .i64 r.e]) ∧ Below W.heap.size W w')) (hT : Hid (Tab w.heap.size w)) :
    Calls Tryd.prog 6 #[.agg #[.int .i64 a, .int .i64 b], .slice sa m cap] w fun e w' => e = .returned (.bool true) ∧ Below w.heap.size w w' := by
  go_enter Tryd.func6, Tryd.ntmps6
  go_wp2_with fail
  refine (HE.out _).mono ?_
  rintro e W1 ⟨rfl, hb1⟩
  have k1 : W1.cell? ⟨w.heap.size, 0, none⟩ = some (.int .i64 a) := kept1 (by simp [go_sem]) hb1
  have k2 : W1.cell? ⟨w.heap.size, 1, none⟩ = some (.int .i64 b) := kept1 (by simp [go_sem]) hb1
  have lk1 : w.heap.size < W1.heap.size := block_lt_of_cell k1
  have hv1 : Below w.heap.size w W1 := bstep1 (Below.refl _ _) hb1
  clear hb1  
  go_wp2_with fail
  refine (HF.out _ hv1).mono ?_
  rintro e W2 ⟨rfl, hb2⟩
  have k3 : W2.cell? ⟨w.heap.size, 0, none⟩ = some (.int .i64 a) := kept1 k1 hb2
  have k4 : W2.cell? ⟨w.heap.size, 1, none⟩ = some (.int .i64 b) := kept1 k2 hb2
  have lk3 : w.heap.size < W2.heap.size := block_lt_of_cell k3
  have hv2 : Below w.heap.size w W2 := bstep0 hv1 hb2
  clear hb2 hv1 k1 k2 lk1
  go_upto_region 5 with fail
  have k5 : (W2.alloc (Obj.cells #[.int .i64 r.n, .int .i64 r.d] 23)).cell? ⟨w.heap.size, 0, none⟩ = some (.int .i64 a) := (cell_alloc k3 _)
  have k6 : (W2.alloc (Obj.cells #[.int .i64 r.n, .int .i64 r.d] 23)).cell? ⟨w.heap.size, 1, none⟩ = some (.int .i64 b) := (cell_alloc k4 _)
  have k7 : (W2.alloc (Obj.cells #[.int .i64 r.n, .int .i64 r.d] 23)).cell? ⟨W2.heap.size, 0, none⟩ = some (.int .i64 r.n) := by simp [go_sem]
  have k8 : (W2.alloc (Obj.cells #[.int .i64 r.n, .int .i64 r.d] 23)).cell? ⟨W2.heap.size, 1, none⟩ = some (.int .i64 r.d) := by simp [go_sem]
  have lk5 : w.heap.size < (W2.alloc (Obj.cells #[.int .i64 r.n, .int .i64 r.d] 23)).heap.size := block_lt_of_cell k5
  have lk7 : W2.heap.size < (W2.alloc (Obj.cells #[.int .i64 r.n, .int .i64 r.d] 23)).heap.size := block_lt_of_cell k7
  have hv3 : Below w.heap.size w (W2.alloc (Obj.cells #[.int .i64 r.n, .int .i64 r.d] 23)) := (below_alloc hv2 _)
  clear hv2 k3 k4 lk3
  generalize (W2.alloc (Obj.cells #[.int .i64 r.n, .int .i64 r.d] 23)) = X3 at *
  have hTX : Hid (Tab X3.drew.heap.size X3.drew) := Lib.hid (Lib.tabBelow_of_tabIs (hT.out.on hv3.drew).here)
  go_cut [28] from 23 to 28 (fun s28 wx => s28 = .bool false ∧ wx.cell? ⟨w.heap.size, 0, none⟩ = some (.int .i64 a) ∧ wx.cell? ⟨w.heap.size, 1, none⟩ = some (.int .i64 b) ∧ wx.cell? ⟨W2.heap.size, 0, none⟩ = some (.int .i64 r.n) ∧ wx.cell? ⟨W2.heap.size, 1, none⟩ = some (.int .i64 r.d) ∧ Below w.heap.size w wx)
  case first =>
    have hvd : Below w.heap.size w X3.drew := hv3.drew
    have hu : undef = Value.tuple #[] := rfl
    first | (go_region_with (first
        | (go_at_call 46
           refine (KF.out _ hvd).mono ?_
           rintro e wp ⟨he, hbp⟩
           subst he
           have q0 : wp.cell? ⟨w.heap.size, 0, none⟩ = some (.int .i64 a) := kept1 (by assumption) hbp
           have q1 : wp.cell? ⟨w.heap.size, 1, none⟩ = some (.int .i64 b) := kept1 (by assumption) hbp
           have q2 : wp.cell? ⟨W2.heap.size, 0, none⟩ = some (.int .i64 r.n) := kept1 (by assumption) hbp
           have q3 : wp.cell? ⟨W2.heap.size, 1, none⟩ = some (.int .i64 r.d) := kept1 (by assumption) hbp
           have hvp : Below w.heap.size w wp := keep0 (by assumption) hbp
           skip)
        | (go_at_call 19
           refine (is_yes _ _ _ _).mono ?_
           rintro e wp ⟨he, hbp⟩
           subst he
           have q0 : wp.cell? ⟨w.heap.size, 0, none⟩ = some (.int .i64 a) := kept1 (by assumption) hbp
           have q1 : wp.cell? ⟨w.heap.size, 1, none⟩ = some (.int .i64 b) := kept1 (by assumption) hbp
           have q2 : wp.cell? ⟨W2.heap.size, 0, none⟩ = some (.int .i64 r.n) := kept1 (by assumption) hbp
           have q3 : wp.cell? ⟨W2.heap.size, 1, none⟩ = some (.int .i64 r.d) := kept1 (by assumption) hbp
           have hvp : Below w.heap.size w wp := keep0 (by assumption) hbp
           skip))) | fail
    all_goals
      go_wp2_with fail
      go_meet
      exact ⟨rfl, q0, q1, q2, q3, hvp⟩
  case rest =>
    generalize wc = V4 at hcut ⊢
    clear wc
    obtain ⟨rfl, k9, k10, k11, k12, hv4⟩ := hcut
    clear hv3 k5 k6 k7 k8 lk5 lk7
    have lk9 : w.heap.size < V4.heap.size := block_lt_of_cell k9
    have lk11 : W2.heap.size < V4.heap.size := block_lt_of_cell k11
    go_wp2_with fail
    refine (KV.out _).mono ?_
    rintro e W5 ⟨rfl, hb5⟩
    have k13 : W5.cell? ⟨w.heap.size, 0, none⟩ = some (.int .i64 a) := kept1 k9 hb5
    have k14 : W5.cell? ⟨w.heap.size, 1, none⟩ = some (.int .i64 b) := kept1 k10 hb5
    have k15 : W5.cell? ⟨W2.heap.size, 0, none⟩ = some (.int .i64 r.n) := kept1 k11 hb5
    have k16 : W5.cell? ⟨W2.heap.size, 1, none⟩ = some (.int .i64 r.d) := kept1 k12 hb5
    have lk13 : w.heap.size < W5.heap.size := block_lt_of_cell k13
    have lk15 : W2.heap.size < W5.heap.size := block_lt_of_cell k15
    have hv5 : Below w.heap.size w W5 := bstep0 hv4 hb5
    clear hb5 hv4 k9 k10 k11 k12 lk9 lk11
    go_wp2_with fail
    refine (sanity_tab hT _ hv5).mono ?_
    rintro e W6 ⟨rfl, hb6⟩
    have k17 : W6.cell? ⟨w.heap.size, 0, none⟩ = some (.int .i64 a) := kept1 k13 hb6
    have k18 : W6.cell? ⟨w.heap.size, 1, none⟩ = some (.int .i64 b) := kept1 k14 hb6
    have k19 : W6.cell? ⟨W2.heap.size, 0, none⟩ = some (.int .i64 r.n) := kept1 k15 hb6
    have k20 : W6.cell? ⟨W2.heap.size, 1, none⟩ = some (.int .i64 r.d) := kept1 k16 hb6
    have lk17 : w.heap.size < W6.heap.size := block_lt_of_cell k17
    have lk19 : W2.heap.size < W6.heap.size := block_lt_of_cell k19
    have hv6 : Below w.heap.size w W6 := bstep0 hv5 hb6
    clear hb6 hv5 k13 k14 k15 k16 lk13 lk15
    go_wp2
    go_ret
    exact ⟨by first | rfl | simp, (by repeat (first | with_reducible exact Below.refl _ _ | with_reducible assumption | refine below_drewN ?_ _ | refine Below.drew ?_ | refine Below.alloc ?_ (by first | (simp; done) | (simp; omega) | omega) _ | refine Below.setCell ?_ (by first | (simp; done) | (simp; omega) | omega) _ | refine Below.trans ?_ (Below.mono (by assumption) (by first | (simp; done) | (simp; omega) | omega))))⟩

set_option maxRecDepth 100000 in
set_option maxHeartbeats 4000000 in
theorem frac_ok (a b : Int) (sa : Option Addr) (m cap : Nat) (hm : ¬ (60 : Int) < (m : Int)) (r : Rt.Num) (L : List Int) (HE : Hid (∀ W : World, Calls Tryd.prog 44 #[.agg #[.int .i64 a, .int .i64 b]] W fun e w' => ∃ v, e = .returned (.tuple #[v, .int .i64 0]) ∧ Reads w' v L ∧ Below W.heap.size W w')) (KE : Hid (∀ W : World, Calls Tryd.prog 48 #[.agg #[.int .i64 a, .int .i64 b]] W fun e w' => ∃ v, e = .returned v ∧ Reads w' v L ∧ Below W.heap.size W w')) (KV : Hid (∀ W : World, Calls Tryd.prog 22 #[.agg #[.int .i64 a, .int .i64 b]] W fun e w' => e = .returned (.bool true) ∧ Below W.heap.size W w')) (w : World) (HF : Hid (∀ W : World, Below w.heap.size w W → Calls Tryd.prog 45 #[.slice sa m cap] W fun e w' => e = .returned (.tuple #[.agg #[.int .i64 r.n, .int .i64 r.d], .int .i64 r.e]) ∧ Below W.heap.size W w')) (KF : Hid (∀ W : World, Below w.heap.size w W → Calls Tryd.prog 46 #[.slice sa m cap] W fun e w' => e = .returned (.agg #[.int .i64 r.n, .int .i64 r.d, .int .i64 r.e]) ∧ Below W.heap.size W w')) (hT : Hid (Tab w.heap.size w)) :
    Calls Tryd.prog 6 #[.agg #[.int .i64 a, .int .i64 b], .slice sa m cap] w fun e w' => e = .returned (.bool true) ∧ Below w.heap.size w w' := by
  go_enter Tryd.func6, Tryd.ntmps6
  go_wp2_with fail
  refine (HE.out _).mono ?_
  rintro e W1 ⟨v1, rfl, hrv1, hb1⟩
  have k1 : W1.cell? ⟨w.heap.size, 0, none⟩ = some (.int .i64 a) := kept1 (by simp [go_sem]) hb1
  have k2 : W1.cell? ⟨w.heap.size, 1, none⟩ = some (.int .i64 b) := kept1 (by simp [go_sem]) hb1
  have lk1 : w.heap.size < W1.heap.size := block_lt_of_cell k1
  have hv1 : Below w.heap.size w W1 := bstep1 (Below.refl _ _) hb1
  clear hb1  
  go_wp2_with fail
  refine (HF.out _ hv1).mono ?_
  rintro e W2 ⟨rfl, hb2⟩
  have hrv1_2 : Reads W2 v1 L := Reads.below hrv1 hb2
  clear hrv1
  have k3 : W2.cell? ⟨w.heap.size, 0, none⟩ = some (.int .i64 a) := kept1 k1 hb2
  have k4 : W2.cell? ⟨w.heap.size, 1, none⟩ = some (.int .i64 b) := kept1 k2 hb2
  have lk3 : w.heap.size < W2.heap.size := block_lt_of_cell k3
  have hv2 : Below w.heap.size w W2 := bstep0 hv1 hb2
  clear hb2 hv1 k1 k2 lk1
  go_upto_region 5 with fail
  have k5 : (W2.alloc (Obj.cells #[.int .i64 r.n, .int .i64 r.d] 23)).cell? ⟨w.heap.size, 0, none⟩ = some (.int .i64 a) := (cell_alloc k3 _)
  have k6 : (W2.alloc (Obj.cells #[.int .i64 r.n, .int .i64 r.d] 23)).cell? ⟨w.heap.size, 1, none⟩ = some (.int .i64 b) := (cell_alloc k4 _)
  have k7 : (W2.alloc (Obj.cells #[.int .i64 r.n, .int .i64 r.d] 23)).cell? ⟨W2.heap.size, 0, none⟩ = some (.int .i64 r.n) := by simp [go_sem]
  have k8 : (W2.alloc (Obj.cells #[.int .i64 r.n, .int .i64 r.d] 23)).cell? ⟨W2.heap.size, 1, none⟩ = some (.int .i64 r.d) := by simp [go_sem]
  have lk5 : w.heap.size < (W2.alloc (Obj.cells #[.int .i64 r.n, .int .i64 r.d] 23)).heap.size := block_lt_of_cell k5
  have lk7 : W2.heap.size < (W2.alloc (Obj.cells #[.int .i64 r.n, .int .i64 r.d] 23)).heap.size := block_lt_of_cell k7
  have hv3 : Below w.heap.size w (W2.alloc (Obj.cells #[.int .i64 r.n, .int .i64 r.d] 23)) := (below_alloc hv2 _)
  clear hv2 k3 k4 lk3
  have hrv1_2x : Reads (W2.alloc (Obj.cells #[.int .i64 r.n, .int .i64 r.d] 23)) v1 L := Reads.below hrv1_2 (below_alloc (Below.refl _ _) _)
  clear hrv1_2
  generalize (W2.alloc (Obj.cells #[.int .i64 r.n, .int .i64 r.d] 23)) = X3 at *
  have hTX : Hid (Tab X3.drew.heap.size X3.drew) := Lib.hid (Lib.tabBelow_of_tabIs (hT.out.on hv3.drew).here)
  go_cut [28] from 23 to 28 (fun s28 wx => s28 = .bool false ∧ Reads wx v1 L ∧ wx.cell? ⟨w.heap.size, 0, none⟩ = some (.int .i64 a) ∧ wx.cell? ⟨w.heap.size, 1, none⟩ = some (.int .i64 b) ∧ wx.cell? ⟨W2.heap.size, 0, none⟩ = some (.int .i64 r.n) ∧ wx.cell? ⟨W2.heap.size, 1, none⟩ = some (.int .i64 r.d) ∧ Below w.heap.size w wx)
  case first =>
    have hrd : Reads X3.drew v1 L := Reads.below hrv1_2x ((Below.refl _ _).drew)
    have hvd : Below w.heap.size w X3.drew := hv3.drew
    have hu : undef = Value.tuple #[] := rfl
    first | (go_region_with (first
        | (go_at_call 46
           refine (KF.out _ hvd).mono ?_
           rintro e wp ⟨he, hbp⟩
           subst he
           have q0 : wp.cell? ⟨w.heap.size, 0, none⟩ = some (.int .i64 a) := kept1 (by assumption) hbp
           have q1 : wp.cell? ⟨w.heap.size, 1, none⟩ = some (.int .i64 b) := kept1 (by assumption) hbp
           have q2 : wp.cell? ⟨W2.heap.size, 0, none⟩ = some (.int .i64 r.n) := kept1 (by assumption) hbp
           have q3 : wp.cell? ⟨W2.heap.size, 1, none⟩ = some (.int .i64 r.d) := kept1 (by assumption) hbp
           have hvp : Below w.heap.size w wp := keep0 (by assumption) hbp
           have hrp : Reads wp v1 L := Reads.below (by assumption) hbp
           skip)
        | (go_at_call 19
           refine (is_yes _ _ _ _).mono ?_
           rintro e wp ⟨he, hbp⟩
           subst he
           have q0 : wp.cell? ⟨w.heap.size, 0, none⟩ = some (.int .i64 a) := kept1 (by assumption) hbp
           have q1 : wp.cell? ⟨w.heap.size, 1, none⟩ = some (.int .i64 b) := kept1 (by assumption) hbp
           have q2 : wp.cell? ⟨W2.heap.size, 0, none⟩ = some (.int .i64 r.n) := kept1 (by assumption) hbp
           have q3 : wp.cell? ⟨W2.heap.size, 1, none⟩ = some (.int .i64 r.d) := kept1 (by assumption) hbp
           have hvp : Below w.heap.size w wp := keep0 (by assumption) hbp
           have hrp : Reads wp v1 L := Reads.below (by assumption) hbp
           skip))) | fail
    all_goals
      go_wp2_with fail
      go_meet
      exact ⟨rfl, hrp, q0, q1, q2, q3, hvp⟩
  case rest =>
    generalize wc = V4 at hcut ⊢
    clear wc
    obtain ⟨rfl, hrc, k9, k10, k11, k12, hv4⟩ := hcut
    clear hv3 k5 k6 k7 k8 lk5 lk7
    have lk9 : w.heap.size < V4.heap.size := block_lt_of_cell k9
    have lk11 : W2.heap.size < V4.heap.size := block_lt_of_cell k11
    clear hrv1_2x
    go_wp2_with fail
    refine (KV.out _).mono ?_
    rintro e W5 ⟨rfl, hb5⟩
    have hrc_5 : Reads W5 v1 L := Reads.below hrc hb5
    clear hrc
    have k13 : W5.cell? ⟨w.heap.size, 0, none⟩ = some (.int .i64 a) := kept1 k9 hb5
    have k14 : W5.cell? ⟨w.heap.size, 1, none⟩ = some (.int .i64 b) := kept1 k10 hb5
    have k15 : W5.cell? ⟨W2.heap.size, 0, none⟩ = some (.int .i64 r.n) := kept1 k11 hb5
    have k16 : W5.cell? ⟨W2.heap.size, 1, none⟩ = some (.int .i64 r.d) := kept1 k12 hb5
    have lk13 : w.heap.size < W5.heap.size := block_lt_of_cell k13
    have lk15 : W2.heap.size < W5.heap.size := block_lt_of_cell k15
    have hv5 : Below w.heap.size w W5 := bstep0 hv4 hb5
    clear hb5 hv4 k9 k10 k11 k12 lk9 lk11
    go_wp2_with fail
    refine (sanity_tab hT _ hv5).mono ?_
    rintro e W6 ⟨rfl, hb6⟩
    have hrc_6 : Reads W6 v1 L := Reads.below hrc_5 hb6
    clear hrc_5
    have k17 : W6.cell? ⟨w.heap.size, 0, none⟩ = some (.int .i64 a) := kept1 k13 hb6
    have k18 : W6.cell? ⟨w.heap.size, 1, none⟩ = some (.int .i64 b) := kept1 k14 hb6
    have k19 : W6.cell? ⟨W2.heap.size, 0, none⟩ = some (.int .i64 r.n) := kept1 k15 hb6
    have k20 : W6.cell? ⟨W2.heap.size, 1, none⟩ = some (.int .i64 r.d) := kept1 k16 hb6
    have lk17 : w.heap.size < W6.heap.size := block_lt_of_cell k17
    have lk19 : W2.heap.size < W6.heap.size := block_lt_of_cell k19
    have hv6 : Below w.heap.size w W6 := bstep0 hv5 hb6
    clear hb6 hv5 k13 k14 k15 k16 lk13 lk15
    go_wp2_with fail
    refine (KE.out _).mono ?_
    rintro e W7 ⟨v2, rfl, hrv2, hb7⟩
    have hrc_7 : Reads W7 v1 L := Reads.below hrc_6 hb7
    clear hrc_6
    have k21 : W7.cell? ⟨w.heap.size, 0, none⟩ = some (.int .i64 a) := kept1 k17 hb7
    have k22 : W7.cell? ⟨w.heap.size, 1, none⟩ = some (.int .i64 b) := kept1 k18 hb7
    have k23 : W7.cell? ⟨W2.heap.size, 0, none⟩ = some (.int .i64 r.n) := kept1 k19 hb7
    have k24 : W7.cell? ⟨W2.heap.size, 1, none⟩ = some (.int .i64 r.d) := kept1 k20 hb7
    have lk21 : w.heap.size < W7.heap.size := block_lt_of_cell k21
    have lk23 : W2.heap.size < W7.heap.size := block_lt_of_cell k23
    have hv7 : Below w.heap.size w W7 := bstep0 hv6 hb7
    clear hb7 hv6 k17 k18 k19 k20 lk17 lk19
    go_wp2_with fail
    refine (same_bel v1 v2 L _ hrc_7 hrv2).mono ?_
    rintro e W8 ⟨rfl, hb8⟩
    have hrc_8 : Reads W8 v1 L := Reads.below hrc_7 hb8
    have hrv2_8 : Reads W8 v2 L := Reads.below hrv2 hb8
    clear hrc_7 hrv2
    have k25 : W8.cell? ⟨w.heap.size, 0, none⟩ = some (.int .i64 a) := kept1 k21 hb8
    have k26 : W8.cell? ⟨w.heap.size, 1, none⟩ = some (.int .i64 b) := kept1 k22 hb8
    have k27 : W8.cell? ⟨W2.heap.size, 0, none⟩ = some (.int .i64 r.n) := kept1 k23 hb8
    have k28 : W8.cell? ⟨W2.heap.size, 1, none⟩ = some (.int .i64 r.d) := kept1 k24 hb8
    have lk25 : w.heap.size < W8.heap.size := block_lt_of_cell k25
    have lk27 : W2.heap.size < W8.heap.size := block_lt_of_cell k27
    have hv8 : Below w.heap.size w W8 := bstep0 hv7 hb8
    clear hb8 hv7 k21 k22 k23 k24 lk21 lk23
    go_wp2
    go_ret
    exact ⟨by first | rfl | simp, (by repeat (first | with_reducible exact Below.refl _ _ | with_reducible assumption | refine below_drewN ?_ _ | refine Below.drew ?_ | refine Below.alloc ?_ (by first | (simp; done) | (simp; omega) | omega) _ | refine Below.setCell ?_ (by first | (simp; done) | (simp; omega) | omega) _ | refine Below.trans ?_ (Below.mono (by assumption) (by first | (simp; done) | (simp; omega) | omega))))⟩

theorem row_list {w : World} {sa : Option Addr} {m cap : Nat} {zs : List Int} (h : IsRow w sa m cap zs) : ∃ l : List Int, l.length = m ∧ m ≤ cap ∧ cap ≤ maxLen ∧ ∀ k, k < l.length → ∃ x, sa = some x ∧ w.cell? (x.add k) = some (.int .i64 (l.getD k 0)) := by
  rcases h with ⟨rfl, rfl, rfl, rfl⟩ | ⟨x, rfl, h1, h2, h3, h4, _⟩
  · exact ⟨[], rfl, Nat.le_refl _, by unfold maxLen; omega, fun k hk => by simp at hk⟩
  · refine ⟨zs.take m, by simp; omega, h1, h2, fun k hk => ⟨x, rfl, ?_⟩⟩
    have hk2 : k < m := by simp at hk; omega
    rw [h4 k (by omega)]
    simp [List.getD_eq_getElem?_getD, hk2]

theorem exactFractions_true (a b : Int) (sa : Option Addr) (m cap : Nat) (zs : List Int) (_ : I64 a) (_ : I64 b) (w : World) (hz : IsRow w sa m cap zs) (hT : Tab w.heap.size w) :
    Calls Tryd.prog 6 #[.agg #[.int .i64 a, .int .i64 b], .slice sa m cap] w fun e w' => e = .returned (.bool true) ∧ Below w.heap.size w w' := by
  obtain ⟨l, hl, h1, h2, h3⟩ := row_list hz
  by_cases hm : (60 : Int) < (m : Int)
  · exact frac_long a b sa m cap hm w (Lib.hid hT)
  · have hc : ∀ W : World, Below w.heap.size w W → ∀ k, k < l.length → ∃ x, sa = some x ∧ W.cell? (x.add k) = some (.int .i64 (l.getD k 0)) := fun W hb k hk => by
      obtain ⟨x, hx, hcx⟩ := h3 k hk
      exact ⟨x, hx, (hb.cell (block_lt_of_cell hcx)).trans hcx⟩
    have HF := Lib.hid fun W (hb : Below w.heap.size w W) => xfold_any l sa cap (by omega) (by omega) h2 W (hc W hb)
    have KF := Lib.hid fun W (hb : Below w.heap.size w W) => rfold_any l sa cap W (hc W hb)
    rw [hl] at HF KF
    by_cases hv : Rt.vldP a b
    · have HE := Lib.hid fun W : World => (expand_ok a b hv W).mono fun e w' ⟨v, he, ho, hb⟩ => (⟨v, he, owns_reads ho (Rt.cf_len (by have := hv.1; omega) hv.2.1), hb⟩ : ∃ v, e = Ending.returned (.tuple #[v, .int .i64 0]) ∧ Reads w' v (Rt.cf a b) ∧ Below W.heap.size W w')
      have KE := Lib.hid fun W : World => (rexpand a b hv W).mono fun e w' ⟨v, he, ho, hb⟩ => (⟨v, he, owns_reads ho (Rt.cf_len (by have := hv.1; omega) hv.2.1), hb⟩ : ∃ v, e = Ending.returned v ∧ Reads w' v (Rt.cf a b) ∧ Below W.heap.size W w')
      exact frac_ok a b sa m cap hm _ _ HE KE (Lib.hid fun W => rvalid_yes a b W hv) w HF KF (Lib.hid hT)
    · exact frac_bad a b sa m cap hm _ (Lib.hid fun W => expand_bad a b hv W) (Lib.hid fun W => rvalid_not a b W hv) w HF KF (Lib.hid hT)
end Go.Proofs.YtffabmojbelaaaaDoor
