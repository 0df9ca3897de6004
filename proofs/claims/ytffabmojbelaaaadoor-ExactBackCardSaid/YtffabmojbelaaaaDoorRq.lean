/- The contract of the specification's Parse. -/
import Derived.Test.YtffabmojbelaaaaDoorDg
namespace Go.Proofs.YtffabmojbelaaaaDoor
open Go.RowKit

theorem kept_fr2 {W W' : World} {b : Nat} (h : ∀ o, W.frozen? ⟨b, o, none⟩ = false) (hl : b < W.heap.size) (hb : Below W.heap.size W W') : ∀ o, W'.frozen? ⟨b, o, none⟩ = false := fun o => (hb.frozen (p := ⟨b, o, none⟩) hl).trans (h o)
theorem fz_alloc2 {W W' : World} {o : Obj} {b : Nat} (h : ∀ i, W.frozen? ⟨b, i, none⟩ = false) (hl : b < W.heap.size) (hb : Below (W.alloc o).heap.size (W.alloc o) W') : ∀ i, W'.frozen? ⟨b, i, none⟩ = false := fun i =>
  (hb.frozen (p := ⟨b, i, none⟩) (by show b < (W.alloc o).heap.size; simp; omega)).trans ((((Below.refl _ _).alloc (Nat.le_refl _) o).frozen (p := ⟨b, i, none⟩) hl).trans (h i))

set_option maxRecDepth 100000 in
set_option maxHeartbeats 2000000 in
theorem rparse_T_T_bad (s : ByteArray) (hs : (s.size : Int) ≤ 60) (N D : Int) (B : Nat) (n1 : 0 ≤ N) (n2 : N ≤ 20000000000) (E : Int) (h0 : 0 < s.size) (hc0 : s[0]'h0 = 45) (g0 : B < s.size) (gc : s[B]'g0 = 47) (HD1 : Hid (∀ W : World, Calls Tryd.prog 110 #[.string s, .int .i64 1] W fun e w' => e = .returned (.tuple #[.int .i64 N, .int .i64 (B : Int)]) ∧ Below W.heap.size W w')) (HD2 : Hid (∀ W : World, Calls Tryd.prog 110 #[.string s, .int .i64 ((B : Int) + 1)] W fun e w' => e = .returned (.tuple #[.int .i64 D, .int .i64 E]) ∧ Below W.heap.size W w')) (HV : Hid (∀ W : World, Calls Tryd.prog 22 #[.agg #[.int .i64 (-N), .int .i64 D]] W fun e w' => e = .returned (.bool false) ∧ Below W.heap.size W w')) (w : World) :
    Calls Tryd.prog 70 #[.string s] w fun e w' => e = .returned (.agg #[.int .i64 0, .int .i64 0, .int .i64 7]) ∧ Below w.heap.size w w' := by
  have i0 : (0 : Int) < (s.size : Int) := by omega
  have j0 : (B : Int) < (s.size : Int) := by omega
  go_enter Tryd.func70, Tryd.ntmps70
  go_wp2_with fail
  refine (HD1.out _).mono ?_
  rintro e wa ⟨rfl, hbwa⟩
  have ywa0 : wa.cell? ⟨w.heap.size, 0, none⟩ = some (.int .i64 0) := kept1 (by simp [go_sem]) hbwa
  have ywa1 : wa.cell? ⟨w.heap.size, 1, none⟩ = some (.int .i64 0) := kept1 (by simp [go_sem]) hbwa
  have ywa2 : wa.cell? ⟨w.heap.size, 2, none⟩ = some (.int .i64 0) := kept1 (by simp [go_sem]) hbwa
  have ywaf : ∀ o, wa.frozen? ⟨w.heap.size, o, none⟩ = false := kept_fr2 (fun o => by simp [go_sem]) (by simp) hbwa
  have ywab : Below w.heap.size w wa := bstep1 (Below.refl _ _) hbwa
  clear hbwa 
  have ywal : w.heap.size < wa.heap.size := block_lt_of_cell ywa0
  go_wp2_with fail
  refine (HD2.out _).mono ?_
  rintro e wb ⟨rfl, hbwb⟩
  have ywb0 : wb.cell? ⟨w.heap.size, 0, none⟩ = some (.int .i64 0) := kept1 ywa0 hbwb
  have ywb1 : wb.cell? ⟨w.heap.size, 1, none⟩ = some (.int .i64 0) := kept1 ywa1 hbwb
  have ywb2 : wb.cell? ⟨w.heap.size, 2, none⟩ = some (.int .i64 0) := kept1 ywa2 hbwb
  have ywbf : ∀ o, wb.frozen? ⟨w.heap.size, o, none⟩ = false := kept_fr2 ywaf (block_lt_of_cell ywa0) hbwb
  have ywbb : Below w.heap.size w wb := bstep0 ywab hbwb
  clear hbwb ywa0 ywa1 ywa2 ywaf ywab ywal
  have ywbl : w.heap.size < wb.heap.size := block_lt_of_cell ywb0
  go_wp2_with fail
  refine (HV.out _).mono ?_
  rintro e wc ⟨rfl, hbwc⟩
  have ywc0 : wc.cell? ⟨w.heap.size, 0, none⟩ = some (.int .i64 0) := kept1 (cell_alloc ywb0 _) hbwc
  have ywc1 : wc.cell? ⟨w.heap.size, 1, none⟩ = some (.int .i64 0) := kept1 (cell_alloc ywb1 _) hbwc
  have ywc2 : wc.cell? ⟨w.heap.size, 2, none⟩ = some (.int .i64 0) := kept1 (cell_alloc ywb2 _) hbwc
  have rwc0 : wc.cell? ⟨wb.heap.size, 0, none⟩ = some (.int .i64 (-N)) := kept1 (by simp [go_sem]) hbwc
  have rwc1 : wc.cell? ⟨wb.heap.size, 1, none⟩ = some (.int .i64 D) := kept1 (by simp [go_sem]) hbwc
  have ywcf : ∀ o, wc.frozen? ⟨w.heap.size, o, none⟩ = false := fz_alloc2 ywbf ywbl hbwc
  have ywcb : Below w.heap.size w wc := bstep1 ywbb hbwc
  clear hbwc ywb0 ywb1 ywb2 ywbf ywbb ywbl
  have ywcl : w.heap.size < wc.heap.size := block_lt_of_cell ywc0
  have zm : w.heap.size < wc.heap.size + 1 := by omega
  go_wp2
  refine bodyPost_ret (v := .agg #[.int .i64 0, .int .i64 0, .int .i64 7]) (by simp [results, Tryd.results70, go_sem, *]) rfl ?_
  exact ⟨rfl, (by repeat (first | with_reducible exact Below.refl _ _ | with_reducible assumption | refine below_drewN ?_ _ | refine Below.drew ?_ | refine Below.alloc ?_ (by first | (simp; done) | (simp; omega) | omega) _ | refine Below.setCell ?_ (by first | (simp; done) | (simp; omega) | omega) _ | refine Below.trans ?_ (Below.mono (by assumption) (by first | (simp; done) | (simp; omega) | omega))))⟩

set_option maxRecDepth 100000 in
set_option maxHeartbeats 2000000 in
theorem rparse_T_T_ne (s : ByteArray) (hs : (s.size : Int) ≤ 60) (N D : Int) (B : Nat) (n1 : 0 ≤ N) (n2 : N ≤ 20000000000) (E : Int) (h0 : 0 < s.size) (hc0 : s[0]'h0 = 45) (g0 : B < s.size) (gc : s[B]'g0 = 47) (HD1 : Hid (∀ W : World, Calls Tryd.prog 110 #[.string s, .int .i64 1] W fun e w' => e = .returned (.tuple #[.int .i64 N, .int .i64 (B : Int)]) ∧ Below W.heap.size W w')) (HD2 : Hid (∀ W : World, Calls Tryd.prog 110 #[.string s, .int .i64 ((B : Int) + 1)] W fun e w' => e = .returned (.tuple #[.int .i64 D, .int .i64 E]) ∧ Below W.heap.size W w')) (HV : Hid (∀ W : World, Calls Tryd.prog 22 #[.agg #[.int .i64 (-N), .int .i64 D]] W fun e w' => e = .returned (.bool true) ∧ Below W.heap.size W w')) (T : ByteArray) (hnb : (T.toList == s.toList) = false) (HP : Hid (∀ W : World, Calls Tryd.prog 71 #[.agg #[.int .i64 (-N), .int .i64 D]] W fun e w' => e = .returned (.string T) ∧ Below W.heap.size W w')) (w : World) :
    Calls Tryd.prog 70 #[.string s] w fun e w' => e = .returned (.agg #[.int .i64 0, .int .i64 0, .int .i64 7]) ∧ Below w.heap.size w w' := by
  have i0 : (0 : Int) < (s.size : Int) := by omega
  have j0 : (B : Int) < (s.size : Int) := by omega
  go_enter Tryd.func70, Tryd.ntmps70
  go_wp2_with fail
  refine (HD1.out _).mono ?_
  rintro e wa ⟨rfl, hbwa⟩
  have ywa0 : wa.cell? ⟨w.heap.size, 0, none⟩ = some (.int .i64 0) := kept1 (by simp [go_sem]) hbwa
  have ywa1 : wa.cell? ⟨w.heap.size, 1, none⟩ = some (.int .i64 0) := kept1 (by simp [go_sem]) hbwa
  have ywa2 : wa.cell? ⟨w.heap.size, 2, none⟩ = some (.int .i64 0) := kept1 (by simp [go_sem]) hbwa
  have ywaf : ∀ o, wa.frozen? ⟨w.heap.size, o, none⟩ = false := kept_fr2 (fun o => by simp [go_sem]) (by simp) hbwa
  have ywab : Below w.heap.size w wa := bstep1 (Below.refl _ _) hbwa
  clear hbwa 
  have ywal : w.heap.size < wa.heap.size := block_lt_of_cell ywa0
  go_wp2_with fail
  refine (HD2.out _).mono ?_
  rintro e wb ⟨rfl, hbwb⟩
  have ywb0 : wb.cell? ⟨w.heap.size, 0, none⟩ = some (.int .i64 0) := kept1 ywa0 hbwb
  have ywb1 : wb.cell? ⟨w.heap.size, 1, none⟩ = some (.int .i64 0) := kept1 ywa1 hbwb
  have ywb2 : wb.cell? ⟨w.heap.size, 2, none⟩ = some (.int .i64 0) := kept1 ywa2 hbwb
  have ywbf : ∀ o, wb.frozen? ⟨w.heap.size, o, none⟩ = false := kept_fr2 ywaf (block_lt_of_cell ywa0) hbwb
  have ywbb : Below w.heap.size w wb := bstep0 ywab hbwb
  clear hbwb ywa0 ywa1 ywa2 ywaf ywab ywal
  have ywbl : w.heap.size < wb.heap.size := block_lt_of_cell ywb0
  go_wp2_with fail
  refine (HV.out _).mono ?_
  rintro e wc ⟨rfl, hbwc⟩
  have ywc0 : wc.cell? ⟨w.heap.size, 0, none⟩ = some (.int .i64 0) := kept1 (cell_alloc ywb0 _) hbwc
  have ywc1 : wc.cell? ⟨w.heap.size, 1, none⟩ = some (.int .i64 0) := kept1 (cell_alloc ywb1 _) hbwc
  have ywc2 : wc.cell? ⟨w.heap.size, 2, none⟩ = some (.int .i64 0) := kept1 (cell_alloc ywb2 _) hbwc
  have rwc0 : wc.cell? ⟨wb.heap.size, 0, none⟩ = some (.int .i64 (-N)) := kept1 (by simp [go_sem]) hbwc
  have rwc1 : wc.cell? ⟨wb.heap.size, 1, none⟩ = some (.int .i64 D) := kept1 (by simp [go_sem]) hbwc
  have ywcf : ∀ o, wc.frozen? ⟨w.heap.size, o, none⟩ = false := fz_alloc2 ywbf ywbl hbwc
  have ywcb : Below w.heap.size w wc := bstep1 ywbb hbwc
  clear hbwc ywb0 ywb1 ywb2 ywbf ywbb ywbl
  have ywcl : w.heap.size < wc.heap.size := block_lt_of_cell ywc0
  go_wp2_with fail
  refine (HP.out _).mono ?_
  rintro e wd ⟨rfl, hbwd⟩
  have ywd0 : wd.cell? ⟨w.heap.size, 0, none⟩ = some (.int .i64 0) := kept1 ywc0 hbwd
  have ywd1 : wd.cell? ⟨w.heap.size, 1, none⟩ = some (.int .i64 0) := kept1 ywc1 hbwd
  have ywd2 : wd.cell? ⟨w.heap.size, 2, none⟩ = some (.int .i64 0) := kept1 ywc2 hbwd
  have rwd0 : wd.cell? ⟨wb.heap.size, 0, none⟩ = some (.int .i64 (-N)) := kept1 rwc0 hbwd
  have rwd1 : wd.cell? ⟨wb.heap.size, 1, none⟩ = some (.int .i64 D) := kept1 rwc1 hbwd
  clear rwc0 rwc1
  have ywdf : ∀ o, wd.frozen? ⟨w.heap.size, o, none⟩ = false := kept_fr2 ywcf (block_lt_of_cell ywc0) hbwd
  have ywdb : Below w.heap.size w wd := bstep0 ywcb hbwd
  clear hbwd ywc0 ywc1 ywc2 ywcf ywcb ywcl
  have ywdl : w.heap.size < wd.heap.size := block_lt_of_cell ywd0
  have zm : w.heap.size < wd.heap.size + 1 := by omega
  go_wp2
  refine bodyPost_ret (v := .agg #[.int .i64 0, .int .i64 0, .int .i64 7]) (by simp [results, Tryd.results70, go_sem, *]) rfl ?_
  exact ⟨rfl, (by repeat (first | with_reducible exact Below.refl _ _ | with_reducible assumption | refine below_drewN ?_ _ | refine Below.drew ?_ | refine Below.alloc ?_ (by first | (simp; done) | (simp; omega) | omega) _ | refine Below.setCell ?_ (by first | (simp; done) | (simp; omega) | omega) _ | refine Below.trans ?_ (Below.mono (by assumption) (by first | (simp; done) | (simp; omega) | omega))))⟩

set_option maxRecDepth 100000 in
set_option maxHeartbeats 2000000 in
theorem rparse_T_T_eq (s : ByteArray) (hs : (s.size : Int) ≤ 60) (N D : Int) (B : Nat) (n1 : 0 ≤ N) (n2 : N ≤ 20000000000) (E : Int) (h0 : 0 < s.size) (hc0 : s[0]'h0 = 45) (g0 : B < s.size) (gc : s[B]'g0 = 47) (HD1 : Hid (∀ W : World, Calls Tryd.prog 110 #[.string s, .int .i64 1] W fun e w' => e = .returned (.tuple #[.int .i64 N, .int .i64 (B : Int)]) ∧ Below W.heap.size W w')) (HD2 : Hid (∀ W : World, Calls Tryd.prog 110 #[.string s, .int .i64 ((B : Int) + 1)] W fun e w' => e = .returned (.tuple #[.int .i64 D, .int .i64 E]) ∧ Below W.heap.size W w')) (HV : Hid (∀ W : World, Calls Tryd.prog 22 #[.agg #[.int .i64 (-N), .int .i64 D]] W fun e w' => e = .returned (.bool true) ∧ Below W.heap.size W w')) (HP : Hid (∀ W : World, Calls Tryd.prog 71 #[.agg #[.int .i64 (-N), .int .i64 D]] W fun e w' => e = .returned (.string s) ∧ Below W.heap.size W w')) (w : World) :
    Calls Tryd.prog 70 #[.string s] w fun e w' => e = .returned (.agg #[.int .i64 (-N), .int .i64 D, .int .i64 0]) ∧ Below w.heap.size w w' := by
  have i0 : (0 : Int) < (s.size : Int) := by omega
  have j0 : (B : Int) < (s.size : Int) := by omega
  go_enter Tryd.func70, Tryd.ntmps70
  go_wp2_with fail
  refine (HD1.out _).mono ?_
  rintro e wa ⟨rfl, hbwa⟩
  have ywa0 : wa.cell? ⟨w.heap.size, 0, none⟩ = some (.int .i64 0) := kept1 (by simp [go_sem]) hbwa
  have ywa1 : wa.cell? ⟨w.heap.size, 1, none⟩ = some (.int .i64 0) := kept1 (by simp [go_sem]) hbwa
  have ywa2 : wa.cell? ⟨w.heap.size, 2, none⟩ = some (.int .i64 0) := kept1 (by simp [go_sem]) hbwa
  have ywaf : ∀ o, wa.frozen? ⟨w.heap.size, o, none⟩ = false := kept_fr2 (fun o => by simp [go_sem]) (by simp) hbwa
  have ywab : Below w.heap.size w wa := bstep1 (Below.refl _ _) hbwa
  clear hbwa 
  have ywal : w.heap.size < wa.heap.size := block_lt_of_cell ywa0
  go_wp2_with fail
  refine (HD2.out _).mono ?_
  rintro e wb ⟨rfl, hbwb⟩
  have ywb0 : wb.cell? ⟨w.heap.size, 0, none⟩ = some (.int .i64 0) := kept1 ywa0 hbwb
  have ywb1 : wb.cell? ⟨w.heap.size, 1, none⟩ = some (.int .i64 0) := kept1 ywa1 hbwb
  have ywb2 : wb.cell? ⟨w.heap.size, 2, none⟩ = some (.int .i64 0) := kept1 ywa2 hbwb
  have ywbf : ∀ o, wb.frozen? ⟨w.heap.size, o, none⟩ = false := kept_fr2 ywaf (block_lt_of_cell ywa0) hbwb
  have ywbb : Below w.heap.size w wb := bstep0 ywab hbwb
  clear hbwb ywa0 ywa1 ywa2 ywaf ywab ywal
  have ywbl : w.heap.size < wb.heap.size := block_lt_of_cell ywb0
  go_wp2_with fail
  refine (HV.out _).mono ?_
  rintro e wc ⟨rfl, hbwc⟩
  have ywc0 : wc.cell? ⟨w.heap.size, 0, none⟩ = some (.int .i64 0) := kept1 (cell_alloc ywb0 _) hbwc
  have ywc1 : wc.cell? ⟨w.heap.size, 1, none⟩ = some (.int .i64 0) := kept1 (cell_alloc ywb1 _) hbwc
  have ywc2 : wc.cell? ⟨w.heap.size, 2, none⟩ = some (.int .i64 0) := kept1 (cell_alloc ywb2 _) hbwc
  have rwc0 : wc.cell? ⟨wb.heap.size, 0, none⟩ = some (.int .i64 (-N)) := kept1 (by simp [go_sem]) hbwc
  have rwc1 : wc.cell? ⟨wb.heap.size, 1, none⟩ = some (.int .i64 D) := kept1 (by simp [go_sem]) hbwc
  have ywcf : ∀ o, wc.frozen? ⟨w.heap.size, o, none⟩ = false := fz_alloc2 ywbf ywbl hbwc
  have ywcb : Below w.heap.size w wc := bstep1 ywbb hbwc
  clear hbwc ywb0 ywb1 ywb2 ywbf ywbb ywbl
  have ywcl : w.heap.size < wc.heap.size := block_lt_of_cell ywc0
  go_wp2_with fail
  refine (HP.out _).mono ?_
  rintro e wd ⟨rfl, hbwd⟩
  have ywd0 : wd.cell? ⟨w.heap.size, 0, none⟩ = some (.int .i64 0) := kept1 ywc0 hbwd
  have ywd1 : wd.cell? ⟨w.heap.size, 1, none⟩ = some (.int .i64 0) := kept1 ywc1 hbwd
  have ywd2 : wd.cell? ⟨w.heap.size, 2, none⟩ = some (.int .i64 0) := kept1 ywc2 hbwd
  have rwd0 : wd.cell? ⟨wb.heap.size, 0, none⟩ = some (.int .i64 (-N)) := kept1 rwc0 hbwd
  have rwd1 : wd.cell? ⟨wb.heap.size, 1, none⟩ = some (.int .i64 D) := kept1 rwc1 hbwd
  clear rwc0 rwc1
  have ywdf : ∀ o, wd.frozen? ⟨w.heap.size, o, none⟩ = false := kept_fr2 ywcf (block_lt_of_cell ywc0) hbwd
  have ywdb : Below w.heap.size w wd := bstep0 ywcb hbwd
  clear hbwd ywc0 ywc1 ywc2 ywcf ywcb ywcl
  have ywdl : w.heap.size < wd.heap.size := block_lt_of_cell ywd0
  have zm : w.heap.size < wd.heap.size + 1 := by omega
  go_wp2
  refine bodyPost_ret (v := .agg #[.int .i64 (-N), .int .i64 D, .int .i64 0]) (by simp [results, Tryd.results70, go_sem, *]) rfl ?_
  exact ⟨rfl, (by repeat (first | with_reducible exact Below.refl _ _ | with_reducible assumption | refine below_drewN ?_ _ | refine Below.drew ?_ | refine Below.alloc ?_ (by first | (simp; done) | (simp; omega) | omega) _ | refine Below.setCell ?_ (by first | (simp; done) | (simp; omega) | omega) _ | refine Below.trans ?_ (Below.mono (by assumption) (by first | (simp; done) | (simp; omega) | omega))))⟩

set_option maxRecDepth 100000 in
set_option maxHeartbeats 2000000 in
theorem rparse_T_F0_bad (s : ByteArray) (hs : (s.size : Int) ≤ 60) (N : Int) (B : Nat) (n1 : 0 ≤ N) (n2 : N ≤ 20000000000) (h0 : 0 < s.size) (hc0 : s[0]'h0 = 45) (g0 : ¬ (B : Int) < (s.size : Int)) (HD1 : Hid (∀ W : World, Calls Tryd.prog 110 #[.string s, .int .i64 1] W fun e w' => e = .returned (.tuple #[.int .i64 N, .int .i64 (B : Int)]) ∧ Below W.heap.size W w')) (HV : Hid (∀ W : World, Calls Tryd.prog 22 #[.agg #[.int .i64 (-N), .int .i64 1]] W fun e w' => e = .returned (.bool false) ∧ Below W.heap.size W w')) (w : World) :
    Calls Tryd.prog 70 #[.string s] w fun e w' => e = .returned (.agg #[.int .i64 0, .int .i64 0, .int .i64 7]) ∧ Below w.heap.size w w' := by
  have i0 : (0 : Int) < (s.size : Int) := by omega
  go_enter Tryd.func70, Tryd.ntmps70
  go_wp2_with fail
  refine (HD1.out _).mono ?_
  rintro e wa ⟨rfl, hbwa⟩
  have ywa0 : wa.cell? ⟨w.heap.size, 0, none⟩ = some (.int .i64 0) := kept1 (by simp [go_sem]) hbwa
  have ywa1 : wa.cell? ⟨w.heap.size, 1, none⟩ = some (.int .i64 0) := kept1 (by simp [go_sem]) hbwa
  have ywa2 : wa.cell? ⟨w.heap.size, 2, none⟩ = some (.int .i64 0) := kept1 (by simp [go_sem]) hbwa
  have ywaf : ∀ o, wa.frozen? ⟨w.heap.size, o, none⟩ = false := kept_fr2 (fun o => by simp [go_sem]) (by simp) hbwa
  have ywab : Below w.heap.size w wa := bstep1 (Below.refl _ _) hbwa
  clear hbwa 
  have ywal : w.heap.size < wa.heap.size := block_lt_of_cell ywa0
  go_wp2_with fail
  refine (HV.out _).mono ?_
  rintro e wc ⟨rfl, hbwc⟩
  have ywc0 : wc.cell? ⟨w.heap.size, 0, none⟩ = some (.int .i64 0) := kept1 (cell_alloc ywa0 _) hbwc
  have ywc1 : wc.cell? ⟨w.heap.size, 1, none⟩ = some (.int .i64 0) := kept1 (cell_alloc ywa1 _) hbwc
  have ywc2 : wc.cell? ⟨w.heap.size, 2, none⟩ = some (.int .i64 0) := kept1 (cell_alloc ywa2 _) hbwc
  have rwc0 : wc.cell? ⟨wa.heap.size, 0, none⟩ = some (.int .i64 (-N)) := kept1 (by simp [go_sem]) hbwc
  have rwc1 : wc.cell? ⟨wa.heap.size, 1, none⟩ = some (.int .i64 1) := kept1 (by simp [go_sem]) hbwc
  have ywcf : ∀ o, wc.frozen? ⟨w.heap.size, o, none⟩ = false := fz_alloc2 ywaf ywal hbwc
  have ywcb : Below w.heap.size w wc := bstep1 ywab hbwc
  clear hbwc ywa0 ywa1 ywa2 ywaf ywab ywal
  have ywcl : w.heap.size < wc.heap.size := block_lt_of_cell ywc0
  have zm : w.heap.size < wc.heap.size + 1 := by omega
  go_wp2
  refine bodyPost_ret (v := .agg #[.int .i64 0, .int .i64 0, .int .i64 7]) (by simp [results, Tryd.results70, go_sem, *]) rfl ?_
  exact ⟨rfl, (by repeat (first | with_reducible exact Below.refl _ _ | with_reducible assumption | refine below_drewN ?_ _ | refine Below.drew ?_ | refine Below.alloc ?_ (by first | (simp; done) | (simp; omega) | omega) _ | refine Below.setCell ?_ (by first | (simp; done) | (simp; omega) | omega) _ | refine Below.trans ?_ (Below.mono (by assumption) (by first | (simp; done) | (simp; omega) | omega))))⟩

set_option maxRecDepth 100000 in
set_option maxHeartbeats 2000000 in
theorem rparse_T_F0_ne (s : ByteArray) (hs : (s.size : Int) ≤ 60) (N : Int) (B : Nat) (n1 : 0 ≤ N) (n2 : N ≤ 20000000000) (h0 : 0 < s.size) (hc0 : s[0]'h0 = 45) (g0 : ¬ (B : Int) < (s.size : Int)) (HD1 : Hid (∀ W : World, Calls Tryd.prog 110 #[.string s, .int .i64 1] W fun e w' => e = .returned (.tuple #[.int .i64 N, .int .i64 (B : Int)]) ∧ Below W.heap.size W w')) (HV : Hid (∀ W : World, Calls Tryd.prog 22 #[.agg #[.int .i64 (-N), .int .i64 1]] W fun e w' => e = .returned (.bool true) ∧ Below W.heap.size W w')) (T : ByteArray) (hnb : (T.toList == s.toList) = false) (HP : Hid (∀ W : World, Calls Tryd.prog 71 #[.agg #[.int .i64 (-N), .int .i64 1]] W fun e w' => e = .returned (.string T) ∧ Below W.heap.size W w')) (w : World) :
    Calls Tryd.prog 70 #[.string s] w fun e w' => e = .returned (.agg #[.int .i64 0, .int .i64 0, .int .i64 7]) ∧ Below w.heap.size w w' := by
  have i0 : (0 : Int) < (s.size : Int) := by omega
  go_enter Tryd.func70, Tryd.ntmps70
  go_wp2_with fail
  refine (HD1.out _).mono ?_
  rintro e wa ⟨rfl, hbwa⟩
  have ywa0 : wa.cell? ⟨w.heap.size, 0, none⟩ = some (.int .i64 0) := kept1 (by simp [go_sem]) hbwa
  have ywa1 : wa.cell? ⟨w.heap.size, 1, none⟩ = some (.int .i64 0) := kept1 (by simp [go_sem]) hbwa
  have ywa2 : wa.cell? ⟨w.heap.size, 2, none⟩ = some (.int .i64 0) := kept1 (by simp [go_sem]) hbwa
  have ywaf : ∀ o, wa.frozen? ⟨w.heap.size, o, none⟩ = false := kept_fr2 (fun o => by simp [go_sem]) (by simp) hbwa
  have ywab : Below w.heap.size w wa := bstep1 (Below.refl _ _) hbwa
  clear hbwa 
  have ywal : w.heap.size < wa.heap.size := block_lt_of_cell ywa0
  go_wp2_with fail
  refine (HV.out _).mono ?_
  rintro e wc ⟨rfl, hbwc⟩
  have ywc0 : wc.cell? ⟨w.heap.size, 0, none⟩ = some (.int .i64 0) := kept1 (cell_alloc ywa0 _) hbwc
  have ywc1 : wc.cell? ⟨w.heap.size, 1, none⟩ = some (.int .i64 0) := kept1 (cell_alloc ywa1 _) hbwc
  have ywc2 : wc.cell? ⟨w.heap.size, 2, none⟩ = some (.int .i64 0) := kept1 (cell_alloc ywa2 _) hbwc
  have rwc0 : wc.cell? ⟨wa.heap.size, 0, none⟩ = some (.int .i64 (-N)) := kept1 (by simp [go_sem]) hbwc
  have rwc1 : wc.cell? ⟨wa.heap.size, 1, none⟩ = some (.int .i64 1) := kept1 (by simp [go_sem]) hbwc
  have ywcf : ∀ o, wc.frozen? ⟨w.heap.size, o, none⟩ = false := fz_alloc2 ywaf ywal hbwc
  have ywcb : Below w.heap.size w wc := bstep1 ywab hbwc
  clear hbwc ywa0 ywa1 ywa2 ywaf ywab ywal
  have ywcl : w.heap.size < wc.heap.size := block_lt_of_cell ywc0
  go_wp2_with fail
  refine (HP.out _).mono ?_
  rintro e wd ⟨rfl, hbwd⟩
  have ywd0 : wd.cell? ⟨w.heap.size, 0, none⟩ = some (.int .i64 0) := kept1 ywc0 hbwd
  have ywd1 : wd.cell? ⟨w.heap.size, 1, none⟩ = some (.int .i64 0) := kept1 ywc1 hbwd
  have ywd2 : wd.cell? ⟨w.heap.size, 2, none⟩ = some (.int .i64 0) := kept1 ywc2 hbwd
  have rwd0 : wd.cell? ⟨wa.heap.size, 0, none⟩ = some (.int .i64 (-N)) := kept1 rwc0 hbwd
  have rwd1 : wd.cell? ⟨wa.heap.size, 1, none⟩ = some (.int .i64 1) := kept1 rwc1 hbwd
  clear rwc0 rwc1
  have ywdf : ∀ o, wd.frozen? ⟨w.heap.size, o, none⟩ = false := kept_fr2 ywcf (block_lt_of_cell ywc0) hbwd
  have ywdb : Below w.heap.size w wd := bstep0 ywcb hbwd
  clear hbwd ywc0 ywc1 ywc2 ywcf ywcb ywcl
  have ywdl : w.heap.size < wd.heap.size := block_lt_of_cell ywd0
  have zm : w.heap.size < wd.heap.size + 1 := by omega
  go_wp2
  refine bodyPost_ret (v := .agg #[.int .i64 0, .int .i64 0, .int .i64 7]) (by simp [results, Tryd.results70, go_sem, *]) rfl ?_
  exact ⟨rfl, (by repeat (first | with_reducible exact Below.refl _ _ | with_reducible assumption | refine below_drewN ?_ _ | refine Below.drew ?_ | refine Below.alloc ?_ (by first | (simp; done) | (simp; omega) | omega) _ | refine Below.setCell ?_ (by first | (simp; done) | (simp; omega) | omega) _ | refine Below.trans ?_ (Below.mono (by assumption) (by first | (simp; done) | (simp; omega) | omega))))⟩

set_option maxRecDepth 100000 in
set_option maxHeartbeats 2000000 in
theorem rparse_T_F0_eq (s : ByteArray) (hs : (s.size : Int) ≤ 60) (N : Int) (B : Nat) (n1 : 0 ≤ N) (n2 : N ≤ 20000000000) (h0 : 0 < s.size) (hc0 : s[0]'h0 = 45) (g0 : ¬ (B : Int) < (s.size : Int)) (HD1 : Hid (∀ W : World, Calls Tryd.prog 110 #[.string s, .int .i64 1] W fun e w' => e = .returned (.tuple #[.int .i64 N, .int .i64 (B : Int)]) ∧ Below W.heap.size W w')) (HV : Hid (∀ W : World, Calls Tryd.prog 22 #[.agg #[.int .i64 (-N), .int .i64 1]] W fun e w' => e = .returned (.bool true) ∧ Below W.heap.size W w')) (HP : Hid (∀ W : World, Calls Tryd.prog 71 #[.agg #[.int .i64 (-N), .int .i64 1]] W fun e w' => e = .returned (.string s) ∧ Below W.heap.size W w')) (w : World) :
    Calls Tryd.prog 70 #[.string s] w fun e w' => e = .returned (.agg #[.int .i64 (-N), .int .i64 1, .int .i64 0]) ∧ Below w.heap.size w w' := by
  have i0 : (0 : Int) < (s.size : Int) := by omega
  go_enter Tryd.func70, Tryd.ntmps70
  go_wp2_with fail
  refine (HD1.out _).mono ?_
  rintro e wa ⟨rfl, hbwa⟩
  have ywa0 : wa.cell? ⟨w.heap.size, 0, none⟩ = some (.int .i64 0) := kept1 (by simp [go_sem]) hbwa
  have ywa1 : wa.cell? ⟨w.heap.size, 1, none⟩ = some (.int .i64 0) := kept1 (by simp [go_sem]) hbwa
  have ywa2 : wa.cell? ⟨w.heap.size, 2, none⟩ = some (.int .i64 0) := kept1 (by simp [go_sem]) hbwa
  have ywaf : ∀ o, wa.frozen? ⟨w.heap.size, o, none⟩ = false := kept_fr2 (fun o => by simp [go_sem]) (by simp) hbwa
  have ywab : Below w.heap.size w wa := bstep1 (Below.refl _ _) hbwa
  clear hbwa 
  have ywal : w.heap.size < wa.heap.size := block_lt_of_cell ywa0
  go_wp2_with fail
  refine (HV.out _).mono ?_
  rintro e wc ⟨rfl, hbwc⟩
  have ywc0 : wc.cell? ⟨w.heap.size, 0, none⟩ = some (.int .i64 0) := kept1 (cell_alloc ywa0 _) hbwc
  have ywc1 : wc.cell? ⟨w.heap.size, 1, none⟩ = some (.int .i64 0) := kept1 (cell_alloc ywa1 _) hbwc
  have ywc2 : wc.cell? ⟨w.heap.size, 2, none⟩ = some (.int .i64 0) := kept1 (cell_alloc ywa2 _) hbwc
  have rwc0 : wc.cell? ⟨wa.heap.size, 0, none⟩ = some (.int .i64 (-N)) := kept1 (by simp [go_sem]) hbwc
  have rwc1 : wc.cell? ⟨wa.heap.size, 1, none⟩ = some (.int .i64 1) := kept1 (by simp [go_sem]) hbwc
  have ywcf : ∀ o, wc.frozen? ⟨w.heap.size, o, none⟩ = false := fz_alloc2 ywaf ywal hbwc
  have ywcb : Below w.heap.size w wc := bstep1 ywab hbwc
  clear hbwc ywa0 ywa1 ywa2 ywaf ywab ywal
  have ywcl : w.heap.size < wc.heap.size := block_lt_of_cell ywc0
  go_wp2_with fail
  refine (HP.out _).mono ?_
  rintro e wd ⟨rfl, hbwd⟩
  have ywd0 : wd.cell? ⟨w.heap.size, 0, none⟩ = some (.int .i64 0) := kept1 ywc0 hbwd
  have ywd1 : wd.cell? ⟨w.heap.size, 1, none⟩ = some (.int .i64 0) := kept1 ywc1 hbwd
  have ywd2 : wd.cell? ⟨w.heap.size, 2, none⟩ = some (.int .i64 0) := kept1 ywc2 hbwd
  have rwd0 : wd.cell? ⟨wa.heap.size, 0, none⟩ = some (.int .i64 (-N)) := kept1 rwc0 hbwd
  have rwd1 : wd.cell? ⟨wa.heap.size, 1, none⟩ = some (.int .i64 1) := kept1 rwc1 hbwd
  clear rwc0 rwc1
  have ywdf : ∀ o, wd.frozen? ⟨w.heap.size, o, none⟩ = false := kept_fr2 ywcf (block_lt_of_cell ywc0) hbwd
  have ywdb : Below w.heap.size w wd := bstep0 ywcb hbwd
  clear hbwd ywc0 ywc1 ywc2 ywcf ywcb ywcl
  have ywdl : w.heap.size < wd.heap.size := block_lt_of_cell ywd0
  have zm : w.heap.size < wd.heap.size + 1 := by omega
  go_wp2
  refine bodyPost_ret (v := .agg #[.int .i64 (-N), .int .i64 1, .int .i64 0]) (by simp [results, Tryd.results70, go_sem, *]) rfl ?_
  exact ⟨rfl, (by repeat (first | with_reducible exact Below.refl _ _ | with_reducible assumption | refine below_drewN ?_ _ | refine Below.drew ?_ | refine Below.alloc ?_ (by first | (simp; done) | (simp; omega) | omega) _ | refine Below.setCell ?_ (by first | (simp; done) | (simp; omega) | omega) _ | refine Below.trans ?_ (Below.mono (by assumption) (by first | (simp; done) | (simp; omega) | omega))))⟩

set_option maxRecDepth 100000 in
set_option maxHeartbeats 2000000 in
theorem rparse_T_F1_bad (s : ByteArray) (hs : (s.size : Int) ≤ 60) (N : Int) (B : Nat) (n1 : 0 ≤ N) (n2 : N ≤ 20000000000) (h0 : 0 < s.size) (hc0 : s[0]'h0 = 45) (g0 : B < s.size) (d : UInt8) (gc : s[B]'g0 = d) (gd : ¬ (d.toNat : Int) = 47) (HD1 : Hid (∀ W : World, Calls Tryd.prog 110 #[.string s, .int .i64 1] W fun e w' => e = .returned (.tuple #[.int .i64 N, .int .i64 (B : Int)]) ∧ Below W.heap.size W w')) (HV : Hid (∀ W : World, Calls Tryd.prog 22 #[.agg #[.int .i64 (-N), .int .i64 1]] W fun e w' => e = .returned (.bool false) ∧ Below W.heap.size W w')) (w : World) :
    Calls Tryd.prog 70 #[.string s] w fun e w' => e = .returned (.agg #[.int .i64 0, .int .i64 0, .int .i64 7]) ∧ Below w.heap.size w w' := by
  have i0 : (0 : Int) < (s.size : Int) := by omega
  have j0 : (B : Int) < (s.size : Int) := by omega
  go_enter Tryd.func70, Tryd.ntmps70
  go_wp2_with fail
  refine (HD1.out _).mono ?_
  rintro e wa ⟨rfl, hbwa⟩
  have ywa0 : wa.cell? ⟨w.heap.size, 0, none⟩ = some (.int .i64 0) := kept1 (by simp [go_sem]) hbwa
  have ywa1 : wa.cell? ⟨w.heap.size, 1, none⟩ = some (.int .i64 0) := kept1 (by simp [go_sem]) hbwa
  have ywa2 : wa.cell? ⟨w.heap.size, 2, none⟩ = some (.int .i64 0) := kept1 (by simp [go_sem]) hbwa
  have ywaf : ∀ o, wa.frozen? ⟨w.heap.size, o, none⟩ = false := kept_fr2 (fun o => by simp [go_sem]) (by simp) hbwa
  have ywab : Below w.heap.size w wa := bstep1 (Below.refl _ _) hbwa
  clear hbwa 
  have ywal : w.heap.size < wa.heap.size := block_lt_of_cell ywa0
  go_wp2_with fail
  refine (HV.out _).mono ?_
  rintro e wc ⟨rfl, hbwc⟩
  have ywc0 : wc.cell? ⟨w.heap.size, 0, none⟩ = some (.int .i64 0) := kept1 (cell_alloc ywa0 _) hbwc
  have ywc1 : wc.cell? ⟨w.heap.size, 1, none⟩ = some (.int .i64 0) := kept1 (cell_alloc ywa1 _) hbwc
  have ywc2 : wc.cell? ⟨w.heap.size, 2, none⟩ = some (.int .i64 0) := kept1 (cell_alloc ywa2 _) hbwc
  have rwc0 : wc.cell? ⟨wa.heap.size, 0, none⟩ = some (.int .i64 (-N)) := kept1 (by simp [go_sem]) hbwc
  have rwc1 : wc.cell? ⟨wa.heap.size, 1, none⟩ = some (.int .i64 1) := kept1 (by simp [go_sem]) hbwc
  have ywcf : ∀ o, wc.frozen? ⟨w.heap.size, o, none⟩ = false := fz_alloc2 ywaf ywal hbwc
  have ywcb : Below w.heap.size w wc := bstep1 ywab hbwc
  clear hbwc ywa0 ywa1 ywa2 ywaf ywab ywal
  have ywcl : w.heap.size < wc.heap.size := block_lt_of_cell ywc0
  have zm : w.heap.size < wc.heap.size + 1 := by omega
  go_wp2
  refine bodyPost_ret (v := .agg #[.int .i64 0, .int .i64 0, .int .i64 7]) (by simp [results, Tryd.results70, go_sem, *]) rfl ?_
  exact ⟨rfl, (by repeat (first | with_reducible exact Below.refl _ _ | with_reducible assumption | refine below_drewN ?_ _ | refine Below.drew ?_ | refine Below.alloc ?_ (by first | (simp; done) | (simp; omega) | omega) _ | refine Below.setCell ?_ (by first | (simp; done) | (simp; omega) | omega) _ | refine Below.trans ?_ (Below.mono (by assumption) (by first | (simp; done) | (simp; omega) | omega))))⟩

set_option maxRecDepth 100000 in
set_option maxHeartbeats 2000000 in
theorem rparse_T_F1_ne (s : ByteArray) (hs : (s.size : Int) ≤ 60) (N : Int) (B : Nat) (n1 : 0 ≤ N) (n2 : N ≤ 20000000000) (h0 : 0 < s.size) (hc0 : s[0]'h0 = 45) (g0 : B < s.size) (d : UInt8) (gc : s[B]'g0 = d) (gd : ¬ (d.toNat : Int) = 47) (HD1 : Hid (∀ W : World, Calls Tryd.prog 110 #[.string s, .int .i64 1] W fun e w' => e = .returned (.tuple #[.int .i64 N, .int .i64 (B : Int)]) ∧ Below W.heap.size W w')) (HV : Hid (∀ W : World, Calls Tryd.prog 22 #[.agg #[.int .i64 (-N), .int .i64 1]] W fun e w' => e = .returned (.bool true) ∧ Below W.heap.size W w')) (T : ByteArray) (hnb : (T.toList == s.toList) = false) (HP : Hid (∀ W : World, Calls Tryd.prog 71 #[.agg #[.int .i64 (-N), .int .i64 1]] W fun e w' => e = .returned (.string T) ∧ Below W.heap.size W w')) (w : World) :
    Calls Tryd.prog 70 #[.string s] w fun e w' => e = .returned (.agg #[.int .i64 0, .int .i64 0, .int .i64 7]) ∧ Below w.heap.size w w' := by
  have i0 : (0 : Int) < (s.size : Int) := by omega
  have j0 : (B : Int) < (s.size : Int) := by omega
  go_enter Tryd.func70, Tryd.ntmps70
  go_wp2_with fail
  refine (HD1.out _).mono ?_
  rintro e wa ⟨rfl, hbwa⟩
  have ywa0 : wa.cell? ⟨w.heap.size, 0, none⟩ = some (.int .i64 0) := kept1 (by simp [go_sem]) hbwa
  have ywa1 : wa.cell? ⟨w.heap.size, 1, none⟩ = some (.int .i64 0) := kept1 (by simp [go_sem]) hbwa
  have ywa2 : wa.cell? ⟨w.heap.size, 2, none⟩ = some (.int .i64 0) := kept1 (by simp [go_sem]) hbwa
  have ywaf : ∀ o, wa.frozen? ⟨w.heap.size, o, none⟩ = false := kept_fr2 (fun o => by simp [go_sem]) (by simp) hbwa
  have ywab : Below w.heap.size w wa := bstep1 (Below.refl _ _) hbwa
  clear hbwa 
  have ywal : w.heap.size < wa.heap.size := block_lt_of_cell ywa0
  go_wp2_with fail
  refine (HV.out _).mono ?_
  rintro e wc ⟨rfl, hbwc⟩
  have ywc0 : wc.cell? ⟨w.heap.size, 0, none⟩ = some (.int .i64 0) := kept1 (cell_alloc ywa0 _) hbwc
  have ywc1 : wc.cell? ⟨w.heap.size, 1, none⟩ = some (.int .i64 0) := kept1 (cell_alloc ywa1 _) hbwc
  have ywc2 : wc.cell? ⟨w.heap.size, 2, none⟩ = some (.int .i64 0) := kept1 (cell_alloc ywa2 _) hbwc
  have rwc0 : wc.cell? ⟨wa.heap.size, 0, none⟩ = some (.int .i64 (-N)) := kept1 (by simp [go_sem]) hbwc
  have rwc1 : wc.cell? ⟨wa.heap.size, 1, none⟩ = some (.int .i64 1) := kept1 (by simp [go_sem]) hbwc
  have ywcf : ∀ o, wc.frozen? ⟨w.heap.size, o, none⟩ = false := fz_alloc2 ywaf ywal hbwc
  have ywcb : Below w.heap.size w wc := bstep1 ywab hbwc
  clear hbwc ywa0 ywa1 ywa2 ywaf ywab ywal
  have ywcl : w.heap.size < wc.heap.size := block_lt_of_cell ywc0
  go_wp2_with fail
  refine (HP.out _).mono ?_
  rintro e wd ⟨rfl, hbwd⟩
  have ywd0 : wd.cell? ⟨w.heap.size, 0, none⟩ = some (.int .i64 0) := kept1 ywc0 hbwd
  have ywd1 : wd.cell? ⟨w.heap.size, 1, none⟩ = some (.int .i64 0) := kept1 ywc1 hbwd
  have ywd2 : wd.cell? ⟨w.heap.size, 2, none⟩ = some (.int .i64 0) := kept1 ywc2 hbwd
  have rwd0 : wd.cell? ⟨wa.heap.size, 0, none⟩ = some (.int .i64 (-N)) := kept1 rwc0 hbwd
  have rwd1 : wd.cell? ⟨wa.heap.size, 1, none⟩ = some (.int .i64 1) := kept1 rwc1 hbwd
  clear rwc0 rwc1
  have ywdf : ∀ o, wd.frozen? ⟨w.heap.size, o, none⟩ = false := kept_fr2 ywcf (block_lt_of_cell ywc0) hbwd
  have ywdb : Below w.heap.size w wd := bstep0 ywcb hbwd
  clear hbwd ywc0 ywc1 ywc2 ywcf ywcb ywcl
  have ywdl : w.heap.size < wd.heap.size := block_lt_of_cell ywd0
  have zm : w.heap.size < wd.heap.size + 1 := by omega
  go_wp2
  refine bodyPost_ret (v := .agg #[.int .i64 0, .int .i64 0, .int .i64 7]) (by simp [results, Tryd.results70, go_sem, *]) rfl ?_
  exact ⟨rfl, (by repeat (first | with_reducible exact Below.refl _ _ | with_reducible assumption | refine below_drewN ?_ _ | refine Below.drew ?_ | refine Below.alloc ?_ (by first | (simp; done) | (simp; omega) | omega) _ | refine Below.setCell ?_ (by first | (simp; done) | (simp; omega) | omega) _ | refine Below.trans ?_ (Below.mono (by assumption) (by first | (simp; done) | (simp; omega) | omega))))⟩

set_option maxRecDepth 100000 in
set_option maxHeartbeats 2000000 in
theorem rparse_T_F1_eq (s : ByteArray) (hs : (s.size : Int) ≤ 60) (N : Int) (B : Nat) (n1 : 0 ≤ N) (n2 : N ≤ 20000000000) (h0 : 0 < s.size) (hc0 : s[0]'h0 = 45) (g0 : B < s.size) (d : UInt8) (gc : s[B]'g0 = d) (gd : ¬ (d.toNat : Int) = 47) (HD1 : Hid (∀ W : World, Calls Tryd.prog 110 #[.string s, .int .i64 1] W fun e w' => e = .returned (.tuple #[.int .i64 N, .int .i64 (B : Int)]) ∧ Below W.heap.size W w')) (HV : Hid (∀ W : World, Calls Tryd.prog 22 #[.agg #[.int .i64 (-N), .int .i64 1]] W fun e w' => e = .returned (.bool true) ∧ Below W.heap.size W w')) (HP : Hid (∀ W : World, Calls Tryd.prog 71 #[.agg #[.int .i64 (-N), .int .i64 1]] W fun e w' => e = .returned (.string s) ∧ Below W.heap.size W w')) (w : World) :
    Calls Tryd.prog 70 #[.string s] w fun e w' => e = .returned (.agg #[.int .i64 (-N), .int .i64 1, .int .i64 0]) ∧ Below w.heap.size w w' := by
  have i0 : (0 : Int) < (s.size : Int) := by omega
  have j0 : (B : Int) < (s.size : Int) := by omega
  go_enter Tryd.func70, Tryd.ntmps70
  go_wp2_with fail
  refine (HD1.out _).mono ?_
  rintro e wa ⟨rfl, hbwa⟩
  have ywa0 : wa.cell? ⟨w.heap.size, 0, none⟩ = some (.int .i64 0) := kept1 (by simp [go_sem]) hbwa
  have ywa1 : wa.cell? ⟨w.heap.size, 1, none⟩ = some (.int .i64 0) := kept1 (by simp [go_sem]) hbwa
  have ywa2 : wa.cell? ⟨w.heap.size, 2, none⟩ = some (.int .i64 0) := kept1 (by simp [go_sem]) hbwa
  have ywaf : ∀ o, wa.frozen? ⟨w.heap.size, o, none⟩ = false := kept_fr2 (fun o => by simp [go_sem]) (by simp) hbwa
  have ywab : Below w.heap.size w wa := bstep1 (Below.refl _ _) hbwa
  clear hbwa 
  have ywal : w.heap.size < wa.heap.size := block_lt_of_cell ywa0
  go_wp2_with fail
  refine (HV.out _).mono ?_
  rintro e wc ⟨rfl, hbwc⟩
  have ywc0 : wc.cell? ⟨w.heap.size, 0, none⟩ = some (.int .i64 0) := kept1 (cell_alloc ywa0 _) hbwc
  have ywc1 : wc.cell? ⟨w.heap.size, 1, none⟩ = some (.int .i64 0) := kept1 (cell_alloc ywa1 _) hbwc
  have ywc2 : wc.cell? ⟨w.heap.size, 2, none⟩ = some (.int .i64 0) := kept1 (cell_alloc ywa2 _) hbwc
  have rwc0 : wc.cell? ⟨wa.heap.size, 0, none⟩ = some (.int .i64 (-N)) := kept1 (by simp [go_sem]) hbwc
  have rwc1 : wc.cell? ⟨wa.heap.size, 1, none⟩ = some (.int .i64 1) := kept1 (by simp [go_sem]) hbwc
  have ywcf : ∀ o, wc.frozen? ⟨w.heap.size, o, none⟩ = false := fz_alloc2 ywaf ywal hbwc
  have ywcb : Below w.heap.size w wc := bstep1 ywab hbwc
  clear hbwc ywa0 ywa1 ywa2 ywaf ywab ywal
  have ywcl : w.heap.size < wc.heap.size := block_lt_of_cell ywc0
  go_wp2_with fail
  refine (HP.out _).mono ?_
  rintro e wd ⟨rfl, hbwd⟩
  have ywd0 : wd.cell? ⟨w.heap.size, 0, none⟩ = some (.int .i64 0) := kept1 ywc0 hbwd
  have ywd1 : wd.cell? ⟨w.heap.size, 1, none⟩ = some (.int .i64 0) := kept1 ywc1 hbwd
  have ywd2 : wd.cell? ⟨w.heap.size, 2, none⟩ = some (.int .i64 0) := kept1 ywc2 hbwd
  have rwd0 : wd.cell? ⟨wa.heap.size, 0, none⟩ = some (.int .i64 (-N)) := kept1 rwc0 hbwd
  have rwd1 : wd.cell? ⟨wa.heap.size, 1, none⟩ = some (.int .i64 1) := kept1 rwc1 hbwd
  clear rwc0 rwc1
  have ywdf : ∀ o, wd.frozen? ⟨w.heap.size, o, none⟩ = false := kept_fr2 ywcf (block_lt_of_cell ywc0) hbwd
  have ywdb : Below w.heap.size w wd := bstep0 ywcb hbwd
  clear hbwd ywc0 ywc1 ywc2 ywcf ywcb ywcl
  have ywdl : w.heap.size < wd.heap.size := block_lt_of_cell ywd0
  have zm : w.heap.size < wd.heap.size + 1 := by omega
  go_wp2
  refine bodyPost_ret (v := .agg #[.int .i64 (-N), .int .i64 1, .int .i64 0]) (by simp [results, Tryd.results70, go_sem, *]) rfl ?_
  exact ⟨rfl, (by repeat (first | with_reducible exact Below.refl _ _ | with_reducible assumption | refine below_drewN ?_ _ | refine Below.drew ?_ | refine Below.alloc ?_ (by first | (simp; done) | (simp; omega) | omega) _ | refine Below.setCell ?_ (by first | (simp; done) | (simp; omega) | omega) _ | refine Below.trans ?_ (Below.mono (by assumption) (by first | (simp; done) | (simp; omega) | omega))))⟩

set_option maxRecDepth 100000 in
set_option maxHeartbeats 2000000 in
theorem rparse_F1_T_bad (s : ByteArray) (hs : (s.size : Int) ≤ 60) (N D : Int) (B : Nat) (_ : 0 ≤ N) (_ : N ≤ 20000000000) (E : Int) (h0 : 0 < s.size) (c : UInt8) (hc0 : s[0]'h0 = c) (hc1 : ¬ (c.toNat : Int) = 45) (g0 : B < s.size) (gc : s[B]'g0 = 47) (HD1 : Hid (∀ W : World, Calls Tryd.prog 110 #[.string s, .int .i64 0] W fun e w' => e = .returned (.tuple #[.int .i64 N, .int .i64 (B : Int)]) ∧ Below W.heap.size W w')) (HD2 : Hid (∀ W : World, Calls Tryd.prog 110 #[.string s, .int .i64 ((B : Int) + 1)] W fun e w' => e = .returned (.tuple #[.int .i64 D, .int .i64 E]) ∧ Below W.heap.size W w')) (HV : Hid (∀ W : World, Calls Tryd.prog 22 #[.agg #[.int .i64 N, .int .i64 D]] W fun e w' => e = .returned (.bool false) ∧ Below W.heap.size W w')) (w : World) :
    Calls Tryd.prog 70 #[.string s] w fun e w' => e = .returned (.agg #[.int .i64 0, .int .i64 0, .int .i64 7]) ∧ Below w.heap.size w w' := by
  have i0 : (0 : Int) < (s.size : Int) := by omega
  have j0 : (B : Int) < (s.size : Int) := by omega
  go_enter Tryd.func70, Tryd.ntmps70
  go_wp2_with fail
  refine (HD1.out _).mono ?_
  rintro e wa ⟨rfl, hbwa⟩
  have ywa0 : wa.cell? ⟨w.heap.size, 0, none⟩ = some (.int .i64 0) := kept1 (by simp [go_sem]) hbwa
  have ywa1 : wa.cell? ⟨w.heap.size, 1, none⟩ = some (.int .i64 0) := kept1 (by simp [go_sem]) hbwa
  have ywa2 : wa.cell? ⟨w.heap.size, 2, none⟩ = some (.int .i64 0) := kept1 (by simp [go_sem]) hbwa
  have ywaf : ∀ o, wa.frozen? ⟨w.heap.size, o, none⟩ = false := kept_fr2 (fun o => by simp [go_sem]) (by simp) hbwa
  have ywab : Below w.heap.size w wa := bstep1 (Below.refl _ _) hbwa
  clear hbwa 
  have ywal : w.heap.size < wa.heap.size := block_lt_of_cell ywa0
  go_wp2_with fail
  refine (HD2.out _).mono ?_
  rintro e wb ⟨rfl, hbwb⟩
  have ywb0 : wb.cell? ⟨w.heap.size, 0, none⟩ = some (.int .i64 0) := kept1 ywa0 hbwb
  have ywb1 : wb.cell? ⟨w.heap.size, 1, none⟩ = some (.int .i64 0) := kept1 ywa1 hbwb
  have ywb2 : wb.cell? ⟨w.heap.size, 2, none⟩ = some (.int .i64 0) := kept1 ywa2 hbwb
  have ywbf : ∀ o, wb.frozen? ⟨w.heap.size, o, none⟩ = false := kept_fr2 ywaf (block_lt_of_cell ywa0) hbwb
  have ywbb : Below w.heap.size w wb := bstep0 ywab hbwb
  clear hbwb ywa0 ywa1 ywa2 ywaf ywab ywal
  have ywbl : w.heap.size < wb.heap.size := block_lt_of_cell ywb0
  go_wp2_with fail
  refine (HV.out _).mono ?_
  rintro e wc ⟨rfl, hbwc⟩
  have ywc0 : wc.cell? ⟨w.heap.size, 0, none⟩ = some (.int .i64 0) := kept1 (cell_alloc ywb0 _) hbwc
  have ywc1 : wc.cell? ⟨w.heap.size, 1, none⟩ = some (.int .i64 0) := kept1 (cell_alloc ywb1 _) hbwc
  have ywc2 : wc.cell? ⟨w.heap.size, 2, none⟩ = some (.int .i64 0) := kept1 (cell_alloc ywb2 _) hbwc
  have rwc0 : wc.cell? ⟨wb.heap.size, 0, none⟩ = some (.int .i64 N) := kept1 (by simp [go_sem]) hbwc
  have rwc1 : wc.cell? ⟨wb.heap.size, 1, none⟩ = some (.int .i64 D) := kept1 (by simp [go_sem]) hbwc
  have ywcf : ∀ o, wc.frozen? ⟨w.heap.size, o, none⟩ = false := fz_alloc2 ywbf ywbl hbwc
  have ywcb : Below w.heap.size w wc := bstep1 ywbb hbwc
  clear hbwc ywb0 ywb1 ywb2 ywbf ywbb ywbl
  have ywcl : w.heap.size < wc.heap.size := block_lt_of_cell ywc0
  have zm : w.heap.size < wc.heap.size + 1 := by omega
  go_wp2
  refine bodyPost_ret (v := .agg #[.int .i64 0, .int .i64 0, .int .i64 7]) (by simp [results, Tryd.results70, go_sem, *]) rfl ?_
  exact ⟨rfl, (by repeat (first | with_reducible exact Below.refl _ _ | with_reducible assumption | refine below_drewN ?_ _ | refine Below.drew ?_ | refine Below.alloc ?_ (by first | (simp; done) | (simp; omega) | omega) _ | refine Below.setCell ?_ (by first | (simp; done) | (simp; omega) | omega) _ | refine Below.trans ?_ (Below.mono (by assumption) (by first | (simp; done) | (simp; omega) | omega))))⟩

set_option maxRecDepth 100000 in
set_option maxHeartbeats 2000000 in
theorem rparse_F1_T_ne (s : ByteArray) (hs : (s.size : Int) ≤ 60) (N D : Int) (B : Nat) (_ : 0 ≤ N) (_ : N ≤ 20000000000) (E : Int) (h0 : 0 < s.size) (c : UInt8) (hc0 : s[0]'h0 = c) (hc1 : ¬ (c.toNat : Int) = 45) (g0 : B < s.size) (gc : s[B]'g0 = 47) (HD1 : Hid (∀ W : World, Calls Tryd.prog 110 #[.string s, .int .i64 0] W fun e w' => e = .returned (.tuple #[.int .i64 N, .int .i64 (B : Int)]) ∧ Below W.heap.size W w')) (HD2 : Hid (∀ W : World, Calls Tryd.prog 110 #[.string s, .int .i64 ((B : Int) + 1)] W fun e w' => e = .returned (.tuple #[.int .i64 D, .int .i64 E]) ∧ Below W.heap.size W w')) (HV : Hid (∀ W : World, Calls Tryd.prog 22 #[.agg #[.int .i64 N, .int .i64 D]] W fun e w' => e = .returned (.bool true) ∧ Below W.heap.size W w')) (T : ByteArray) (hnb : (T.toList == s.toList) = false) (HP : Hid (∀ W : World, Calls Tryd.prog 71 #[.agg #[.int .i64 N, .int .i64 D]] W fun e w' => e = .returned (.string T) ∧ Below W.heap.size W w')) (w : World) :
    Calls Tryd.prog 70 #[.string s] w fun e w' => e = .returned (.agg #[.int .i64 0, .int .i64 0, .int .i64 7]) ∧ Below w.heap.size w w' := by
  have i0 : (0 : Int) < (s.size : Int) := by omega
  have j0 : (B : Int) < (s.size : Int) := by omega
  go_enter Tryd.func70, Tryd.ntmps70
  go_wp2_with fail
  refine (HD1.out _).mono ?_
  rintro e wa ⟨rfl, hbwa⟩
  have ywa0 : wa.cell? ⟨w.heap.size, 0, none⟩ = some (.int .i64 0) := kept1 (by simp [go_sem]) hbwa
  have ywa1 : wa.cell? ⟨w.heap.size, 1, none⟩ = some (.int .i64 0) := kept1 (by simp [go_sem]) hbwa
  have ywa2 : wa.cell? ⟨w.heap.size, 2, none⟩ = some (.int .i64 0) := kept1 (by simp [go_sem]) hbwa
  have ywaf : ∀ o, wa.frozen? ⟨w.heap.size, o, none⟩ = false := kept_fr2 (fun o => by simp [go_sem]) (by simp) hbwa
  have ywab : Below w.heap.size w wa := bstep1 (Below.refl _ _) hbwa
  clear hbwa 
  have ywal : w.heap.size < wa.heap.size := block_lt_of_cell ywa0
  go_wp2_with fail
  refine (HD2.out _).mono ?_
  rintro e wb ⟨rfl, hbwb⟩
  have ywb0 : wb.cell? ⟨w.heap.size, 0, none⟩ = some (.int .i64 0) := kept1 ywa0 hbwb
  have ywb1 : wb.cell? ⟨w.heap.size, 1, none⟩ = some (.int .i64 0) := kept1 ywa1 hbwb
  have ywb2 : wb.cell? ⟨w.heap.size, 2, none⟩ = some (.int .i64 0) := kept1 ywa2 hbwb
  have ywbf : ∀ o, wb.frozen? ⟨w.heap.size, o, none⟩ = false := kept_fr2 ywaf (block_lt_of_cell ywa0) hbwb
  have ywbb : Below w.heap.size w wb := bstep0 ywab hbwb
  clear hbwb ywa0 ywa1 ywa2 ywaf ywab ywal
  have ywbl : w.heap.size < wb.heap.size := block_lt_of_cell ywb0
  go_wp2_with fail
  refine (HV.out _).mono ?_
  rintro e wc ⟨rfl, hbwc⟩
  have ywc0 : wc.cell? ⟨w.heap.size, 0, none⟩ = some (.int .i64 0) := kept1 (cell_alloc ywb0 _) hbwc
  have ywc1 : wc.cell? ⟨w.heap.size, 1, none⟩ = some (.int .i64 0) := kept1 (cell_alloc ywb1 _) hbwc
  have ywc2 : wc.cell? ⟨w.heap.size, 2, none⟩ = some (.int .i64 0) := kept1 (cell_alloc ywb2 _) hbwc
  have rwc0 : wc.cell? ⟨wb.heap.size, 0, none⟩ = some (.int .i64 N) := kept1 (by simp [go_sem]) hbwc
  have rwc1 : wc.cell? ⟨wb.heap.size, 1, none⟩ = some (.int .i64 D) := kept1 (by simp [go_sem]) hbwc
  have ywcf : ∀ o, wc.frozen? ⟨w.heap.size, o, none⟩ = false := fz_alloc2 ywbf ywbl hbwc
  have ywcb : Below w.heap.size w wc := bstep1 ywbb hbwc
  clear hbwc ywb0 ywb1 ywb2 ywbf ywbb ywbl
  have ywcl : w.heap.size < wc.heap.size := block_lt_of_cell ywc0
  go_wp2_with fail
  refine (HP.out _).mono ?_
  rintro e wd ⟨rfl, hbwd⟩
  have ywd0 : wd.cell? ⟨w.heap.size, 0, none⟩ = some (.int .i64 0) := kept1 ywc0 hbwd
  have ywd1 : wd.cell? ⟨w.heap.size, 1, none⟩ = some (.int .i64 0) := kept1 ywc1 hbwd
  have ywd2 : wd.cell? ⟨w.heap.size, 2, none⟩ = some (.int .i64 0) := kept1 ywc2 hbwd
  have rwd0 : wd.cell? ⟨wb.heap.size, 0, none⟩ = some (.int .i64 N) := kept1 rwc0 hbwd
  have rwd1 : wd.cell? ⟨wb.heap.size, 1, none⟩ = some (.int .i64 D) := kept1 rwc1 hbwd
  clear rwc0 rwc1
  have ywdf : ∀ o, wd.frozen? ⟨w.heap.size, o, none⟩ = false := kept_fr2 ywcf (block_lt_of_cell ywc0) hbwd
  have ywdb : Below w.heap.size w wd := bstep0 ywcb hbwd
  clear hbwd ywc0 ywc1 ywc2 ywcf ywcb ywcl
  have ywdl : w.heap.size < wd.heap.size := block_lt_of_cell ywd0
  have zm : w.heap.size < wd.heap.size + 1 := by omega
  go_wp2
  refine bodyPost_ret (v := .agg #[.int .i64 0, .int .i64 0, .int .i64 7]) (by simp [results, Tryd.results70, go_sem, *]) rfl ?_
  exact ⟨rfl, (by repeat (first | with_reducible exact Below.refl _ _ | with_reducible assumption | refine below_drewN ?_ _ | refine Below.drew ?_ | refine Below.alloc ?_ (by first | (simp; done) | (simp; omega) | omega) _ | refine Below.setCell ?_ (by first | (simp; done) | (simp; omega) | omega) _ | refine Below.trans ?_ (Below.mono (by assumption) (by first | (simp; done) | (simp; omega) | omega))))⟩

set_option maxRecDepth 100000 in
set_option maxHeartbeats 2000000 in
theorem rparse_F1_T_eq (s : ByteArray) (hs : (s.size : Int) ≤ 60) (N D : Int) (B : Nat) (_ : 0 ≤ N) (_ : N ≤ 20000000000) (E : Int) (h0 : 0 < s.size) (c : UInt8) (hc0 : s[0]'h0 = c) (hc1 : ¬ (c.toNat : Int) = 45) (g0 : B < s.size) (gc : s[B]'g0 = 47) (HD1 : Hid (∀ W : World, Calls Tryd.prog 110 #[.string s, .int .i64 0] W fun e w' => e = .returned (.tuple #[.int .i64 N, .int .i64 (B : Int)]) ∧ Below W.heap.size W w')) (HD2 : Hid (∀ W : World, Calls Tryd.prog 110 #[.string s, .int .i64 ((B : Int) + 1)] W fun e w' => e = .returned (.tuple #[.int .i64 D, .int .i64 E]) ∧ Below W.heap.size W w')) (HV : Hid (∀ W : World, Calls Tryd.prog 22 #[.agg #[.int .i64 N, .int .i64 D]] W fun e w' => e = .returned (.bool true) ∧ Below W.heap.size W w')) (HP : Hid (∀ W : World, Calls Tryd.prog 71 #[.agg #[.int .i64 N, .int .i64 D]] W fun e w' => e = .returned (.string s) ∧ Below W.heap.size W w')) (w : World) :
    Calls Tryd.prog 70 #[.string s] w fun e w' => e = .returned (.agg #[.int .i64 N, .int .i64 D, .int .i64 0]) ∧ Below w.heap.size w w' := by
  have i0 : (0 : Int) < (s.size : Int) := by omega
  have j0 : (B : Int) < (s.size : Int) := by omega
  go_enter Tryd.func70, Tryd.ntmps70
  go_wp2_with fail
  refine (HD1.out _).mono ?_
  rintro e wa ⟨rfl, hbwa⟩
  have ywa0 : wa.cell? ⟨w.heap.size, 0, none⟩ = some (.int .i64 0) := kept1 (by simp [go_sem]) hbwa
  have ywa1 : wa.cell? ⟨w.heap.size, 1, none⟩ = some (.int .i64 0) := kept1 (by simp [go_sem]) hbwa
  have ywa2 : wa.cell? ⟨w.heap.size, 2, none⟩ = some (.int .i64 0) := kept1 (by simp [go_sem]) hbwa
  have ywaf : ∀ o, wa.frozen? ⟨w.heap.size, o, none⟩ = false := kept_fr2 (fun o => by simp [go_sem]) (by simp) hbwa
  have ywab : Below w.heap.size w wa := bstep1 (Below.refl _ _) hbwa
  clear hbwa 
  have ywal : w.heap.size < wa.heap.size := block_lt_of_cell ywa0
  go_wp2_with fail
  refine (HD2.out _).mono ?_
  rintro e wb ⟨rfl, hbwb⟩
  have ywb0 : wb.cell? ⟨w.heap.size, 0, none⟩ = some (.int .i64 0) := kept1 ywa0 hbwb
  have ywb1 : wb.cell? ⟨w.heap.size, 1, none⟩ = some (.int .i64 0) := kept1 ywa1 hbwb
  have ywb2 : wb.cell? ⟨w.heap.size, 2, none⟩ = some (.int .i64 0) := kept1 ywa2 hbwb
  have ywbf : ∀ o, wb.frozen? ⟨w.heap.size, o, none⟩ = false := kept_fr2 ywaf (block_lt_of_cell ywa0) hbwb
  have ywbb : Below w.heap.size w wb := bstep0 ywab hbwb
  clear hbwb ywa0 ywa1 ywa2 ywaf ywab ywal
  have ywbl : w.heap.size < wb.heap.size := block_lt_of_cell ywb0
  go_wp2_with fail
  refine (HV.out _).mono ?_
  rintro e wc ⟨rfl, hbwc⟩
  have ywc0 : wc.cell? ⟨w.heap.size, 0, none⟩ = some (.int .i64 0) := kept1 (cell_alloc ywb0 _) hbwc
  have ywc1 : wc.cell? ⟨w.heap.size, 1, none⟩ = some (.int .i64 0) := kept1 (cell_alloc ywb1 _) hbwc
  have ywc2 : wc.cell? ⟨w.heap.size, 2, none⟩ = some (.int .i64 0) := kept1 (cell_alloc ywb2 _) hbwc
  have rwc0 : wc.cell? ⟨wb.heap.size, 0, none⟩ = some (.int .i64 N) := kept1 (by simp [go_sem]) hbwc
  have rwc1 : wc.cell? ⟨wb.heap.size, 1, none⟩ = some (.int .i64 D) := kept1 (by simp [go_sem]) hbwc
  have ywcf : ∀ o, wc.frozen? ⟨w.heap.size, o, none⟩ = false := fz_alloc2 ywbf ywbl hbwc
  have ywcb : Below w.heap.size w wc := bstep1 ywbb hbwc
  clear hbwc ywb0 ywb1 ywb2 ywbf ywbb ywbl
  have ywcl : w.heap.size < wc.heap.size := block_lt_of_cell ywc0
  go_wp2_with fail
  refine (HP.out _).mono ?_
  rintro e wd ⟨rfl, hbwd⟩
  have ywd0 : wd.cell? ⟨w.heap.size, 0, none⟩ = some (.int .i64 0) := kept1 ywc0 hbwd
  have ywd1 : wd.cell? ⟨w.heap.size, 1, none⟩ = some (.int .i64 0) := kept1 ywc1 hbwd
  have ywd2 : wd.cell? ⟨w.heap.size, 2, none⟩ = some (.int .i64 0) := kept1 ywc2 hbwd
  have rwd0 : wd.cell? ⟨wb.heap.size, 0, none⟩ = some (.int .i64 N) := kept1 rwc0 hbwd
  have rwd1 : wd.cell? ⟨wb.heap.size, 1, none⟩ = some (.int .i64 D) := kept1 rwc1 hbwd
  clear rwc0 rwc1
  have ywdf : ∀ o, wd.frozen? ⟨w.heap.size, o, none⟩ = false := kept_fr2 ywcf (block_lt_of_cell ywc0) hbwd
  have ywdb : Below w.heap.size w wd := bstep0 ywcb hbwd
  clear hbwd ywc0 ywc1 ywc2 ywcf ywcb ywcl
  have ywdl : w.heap.size < wd.heap.size := block_lt_of_cell ywd0
  have zm : w.heap.size < wd.heap.size + 1 := by omega
  go_wp2
  refine bodyPost_ret (v := .agg #[.int .i64 N, .int .i64 D, .int .i64 0]) (by simp [results, Tryd.results70, go_sem, *]) rfl ?_
  exact ⟨rfl, (by repeat (first | with_reducible exact Below.refl _ _ | with_reducible assumption | refine below_drewN ?_ _ | refine Below.drew ?_ | refine Below.alloc ?_ (by first | (simp; done) | (simp; omega) | omega) _ | refine Below.setCell ?_ (by first | (simp; done) | (simp; omega) | omega) _ | refine Below.trans ?_ (Below.mono (by assumption) (by first | (simp; done) | (simp; omega) | omega))))⟩

set_option maxRecDepth 100000 in
set_option maxHeartbeats 2000000 in
theorem rparse_F1_F0_bad (s : ByteArray) (hs : (s.size : Int) ≤ 60) (N : Int) (B : Nat) (_ : 0 ≤ N) (_ : N ≤ 20000000000) (h0 : 0 < s.size) (c : UInt8) (hc0 : s[0]'h0 = c) (hc1 : ¬ (c.toNat : Int) = 45) (g0 : ¬ (B : Int) < (s.size : Int)) (HD1 : Hid (∀ W : World, Calls Tryd.prog 110 #[.string s, .int .i64 0] W fun e w' => e = .returned (.tuple #[.int .i64 N, .int .i64 (B : Int)]) ∧ Below W.heap.size W w')) (HV : Hid (∀ W : World, Calls Tryd.prog 22 #[.agg #[.int .i64 N, .int .i64 1]] W fun e w' => e = .returned (.bool false) ∧ Below W.heap.size W w')) (w : World) :
    Calls Tryd.prog 70 #[.string s] w fun e w' => e = .returned (.agg #[.int .i64 0, .int .i64 0, .int .i64 7]) ∧ Below w.heap.size w w' := by
  have i0 : (0 : Int) < (s.size : Int) := by omega
  go_enter Tryd.func70, Tryd.ntmps70
  go_wp2_with fail
  refine (HD1.out _).mono ?_
  rintro e wa ⟨rfl, hbwa⟩
  have ywa0 : wa.cell? ⟨w.heap.size, 0, none⟩ = some (.int .i64 0) := kept1 (by simp [go_sem]) hbwa
  have ywa1 : wa.cell? ⟨w.heap.size, 1, none⟩ = some (.int .i64 0) := kept1 (by simp [go_sem]) hbwa
  have ywa2 : wa.cell? ⟨w.heap.size, 2, none⟩ = some (.int .i64 0) := kept1 (by simp [go_sem]) hbwa
  have ywaf : ∀ o, wa.frozen? ⟨w.heap.size, o, none⟩ = false := kept_fr2 (fun o => by simp [go_sem]) (by simp) hbwa
  have ywab : Below w.heap.size w wa := bstep1 (Below.refl _ _) hbwa
  clear hbwa 
  have ywal : w.heap.size < wa.heap.size := block_lt_of_cell ywa0
  go_wp2_with fail
  refine (HV.out _).mono ?_
  rintro e wc ⟨rfl, hbwc⟩
  have ywc0 : wc.cell? ⟨w.heap.size, 0, none⟩ = some (.int .i64 0) := kept1 (cell_alloc ywa0 _) hbwc
  have ywc1 : wc.cell? ⟨w.heap.size, 1, none⟩ = some (.int .i64 0) := kept1 (cell_alloc ywa1 _) hbwc
  have ywc2 : wc.cell? ⟨w.heap.size, 2, none⟩ = some (.int .i64 0) := kept1 (cell_alloc ywa2 _) hbwc
  have rwc0 : wc.cell? ⟨wa.heap.size, 0, none⟩ = some (.int .i64 N) := kept1 (by simp [go_sem]) hbwc
  have rwc1 : wc.cell? ⟨wa.heap.size, 1, none⟩ = some (.int .i64 1) := kept1 (by simp [go_sem]) hbwc
  have ywcf : ∀ o, wc.frozen? ⟨w.heap.size, o, none⟩ = false := fz_alloc2 ywaf ywal hbwc
  have ywcb : Below w.heap.size w wc := bstep1 ywab hbwc
  clear hbwc ywa0 ywa1 ywa2 ywaf ywab ywal
  have ywcl : w.heap.size < wc.heap.size := block_lt_of_cell ywc0
  have zm : w.heap.size < wc.heap.size + 1 := by omega
  go_wp2
  refine bodyPost_ret (v := .agg #[.int .i64 0, .int .i64 0, .int .i64 7]) (by simp [results, Tryd.results70, go_sem, *]) rfl ?_
  exact ⟨rfl, (by repeat (first | with_reducible exact Below.refl _ _ | with_reducible assumption | refine below_drewN ?_ _ | refine Below.drew ?_ | refine Below.alloc ?_ (by first | (simp; done) | (simp; omega) | omega) _ | refine Below.setCell ?_ (by first | (simp; done) | (simp; omega) | omega) _ | refine Below.trans ?_ (Below.mono (by assumption) (by first | (simp; done) | (simp; omega) | omega))))⟩

set_option maxRecDepth 100000 in
set_option maxHeartbeats 2000000 in
theorem rparse_F1_F0_ne (s : ByteArray) (hs : (s.size : Int) ≤ 60) (N : Int) (B : Nat) (_ : 0 ≤ N) (_ : N ≤ 20000000000) (h0 : 0 < s.size) (c : UInt8) (hc0 : s[0]'h0 = c) (hc1 : ¬ (c.toNat : Int) = 45) (g0 : ¬ (B : Int) < (s.size : Int)) (HD1 : Hid (∀ W : World, Calls Tryd.prog 110 #[.string s, .int .i64 0] W fun e w' => e = .returned (.tuple #[.int .i64 N, .int .i64 (B : Int)]) ∧ Below W.heap.size W w')) (HV : Hid (∀ W : World, Calls Tryd.prog 22 #[.agg #[.int .i64 N, .int .i64 1]] W fun e w' => e = .returned (.bool true) ∧ Below W.heap.size W w')) (T : ByteArray) (hnb : (T.toList == s.toList) = false) (HP : Hid (∀ W : World, Calls Tryd.prog 71 #[.agg #[.int .i64 N, .int .i64 1]] W fun e w' => e = .returned (.string T) ∧ Below W.heap.size W w')) (w : World) :
    Calls Tryd.prog 70 #[.string s] w fun e w' => e = .returned (.agg #[.int .i64 0, .int .i64 0, .int .i64 7]) ∧ Below w.heap.size w w' := by
  have i0 : (0 : Int) < (s.size : Int) := by omega
  go_enter Tryd.func70, Tryd.ntmps70
  go_wp2_with fail
  refine (HD1.out _).mono ?_
  rintro e wa ⟨rfl, hbwa⟩
  have ywa0 : wa.cell? ⟨w.heap.size, 0, none⟩ = some (.int .i64 0) := kept1 (by simp [go_sem]) hbwa
  have ywa1 : wa.cell? ⟨w.heap.size, 1, none⟩ = some (.int .i64 0) := kept1 (by simp [go_sem]) hbwa
  have ywa2 : wa.cell? ⟨w.heap.size, 2, none⟩ = some (.int .i64 0) := kept1 (by simp [go_sem]) hbwa
  have ywaf : ∀ o, wa.frozen? ⟨w.heap.size, o, none⟩ = false := kept_fr2 (fun o => by simp [go_sem]) (by simp) hbwa
  have ywab : Below w.heap.size w wa := bstep1 (Below.refl _ _) hbwa
  clear hbwa 
  have ywal : w.heap.size < wa.heap.size := block_lt_of_cell ywa0
  go_wp2_with fail
  refine (HV.out _).mono ?_
  rintro e wc ⟨rfl, hbwc⟩
  have ywc0 : wc.cell? ⟨w.heap.size, 0, none⟩ = some (.int .i64 0) := kept1 (cell_alloc ywa0 _) hbwc
  have ywc1 : wc.cell? ⟨w.heap.size, 1, none⟩ = some (.int .i64 0) := kept1 (cell_alloc ywa1 _) hbwc
  have ywc2 : wc.cell? ⟨w.heap.size, 2, none⟩ = some (.int .i64 0) := kept1 (cell_alloc ywa2 _) hbwc
  have rwc0 : wc.cell? ⟨wa.heap.size, 0, none⟩ = some (.int .i64 N) := kept1 (by simp [go_sem]) hbwc
  have rwc1 : wc.cell? ⟨wa.heap.size, 1, none⟩ = some (.int .i64 1) := kept1 (by simp [go_sem]) hbwc
  have ywcf : ∀ o, wc.frozen? ⟨w.heap.size, o, none⟩ = false := fz_alloc2 ywaf ywal hbwc
  have ywcb : Below w.heap.size w wc := bstep1 ywab hbwc
  clear hbwc ywa0 ywa1 ywa2 ywaf ywab ywal
  have ywcl : w.heap.size < wc.heap.size := block_lt_of_cell ywc0
  go_wp2_with fail
  refine (HP.out _).mono ?_
  rintro e wd ⟨rfl, hbwd⟩
  have ywd0 : wd.cell? ⟨w.heap.size, 0, none⟩ = some (.int .i64 0) := kept1 ywc0 hbwd
  have ywd1 : wd.cell? ⟨w.heap.size, 1, none⟩ = some (.int .i64 0) := kept1 ywc1 hbwd
  have ywd2 : wd.cell? ⟨w.heap.size, 2, none⟩ = some (.int .i64 0) := kept1 ywc2 hbwd
  have rwd0 : wd.cell? ⟨wa.heap.size, 0, none⟩ = some (.int .i64 N) := kept1 rwc0 hbwd
  have rwd1 : wd.cell? ⟨wa.heap.size, 1, none⟩ = some (.int .i64 1) := kept1 rwc1 hbwd
  clear rwc0 rwc1
  have ywdf : ∀ o, wd.frozen? ⟨w.heap.size, o, none⟩ = false := kept_fr2 ywcf (block_lt_of_cell ywc0) hbwd
  have ywdb : Below w.heap.size w wd := bstep0 ywcb hbwd
  clear hbwd ywc0 ywc1 ywc2 ywcf ywcb ywcl
  have ywdl : w.heap.size < wd.heap.size := block_lt_of_cell ywd0
  have zm : w.heap.size < wd.heap.size + 1 := by omega
  go_wp2
  refine bodyPost_ret (v := .agg #[.int .i64 0, .int .i64 0, .int .i64 7]) (by simp [results, Tryd.results70, go_sem, *]) rfl ?_
  exact ⟨rfl, (by repeat (first | with_reducible exact Below.refl _ _ | with_reducible assumption | refine below_drewN ?_ _ | refine Below.drew ?_ | refine Below.alloc ?_ (by first | (simp; done) | (simp; omega) | omega) _ | refine Below.setCell ?_ (by first | (simp; done) | (simp; omega) | omega) _ | refine Below.trans ?_ (Below.mono (by assumption) (by first | (simp; done) | (simp; omega) | omega))))⟩

set_option maxRecDepth 100000 in
set_option maxHeartbeats 2000000 in
theorem rparse_F1_F0_eq (s : ByteArray) (hs : (s.size : Int) ≤ 60) (N : Int) (B : Nat) (_ : 0 ≤ N) (_ : N ≤ 20000000000) (h0 : 0 < s.size) (c : UInt8) (hc0 : s[0]'h0 = c) (hc1 : ¬ (c.toNat : Int) = 45) (g0 : ¬ (B : Int) < (s.size : Int)) (HD1 : Hid (∀ W : World, Calls Tryd.prog 110 #[.string s, .int .i64 0] W fun e w' => e = .returned (.tuple #[.int .i64 N, .int .i64 (B : Int)]) ∧ Below W.heap.size W w')) (HV : Hid (∀ W : World, Calls Tryd.prog 22 #[.agg #[.int .i64 N, .int .i64 1]] W fun e w' => e = .returned (.bool true) ∧ Below W.heap.size W w')) (HP : Hid (∀ W : World, Calls Tryd.prog 71 #[.agg #[.int .i64 N, .int .i64 1]] W fun e w' => e = .returned (.string s) ∧ Below W.heap.size W w')) (w : World) :
    Calls Tryd.prog 70 #[.string s] w fun e w' => e = .returned (.agg #[.int .i64 N, .int .i64 1, .int .i64 0]) ∧ Below w.heap.size w w' := by
  have i0 : (0 : Int) < (s.size : Int) := by omega
  go_enter Tryd.func70, Tryd.ntmps70
  go_wp2_with fail
  refine (HD1.out _).mono ?_
  rintro e wa ⟨rfl, hbwa⟩
  have ywa0 : wa.cell? ⟨w.heap.size, 0, none⟩ = some (.int .i64 0) := kept1 (by simp [go_sem]) hbwa
  have ywa1 : wa.cell? ⟨w.heap.size, 1, none⟩ = some (.int .i64 0) := kept1 (by simp [go_sem]) hbwa
  have ywa2 : wa.cell? ⟨w.heap.size, 2, none⟩ = some (.int .i64 0) := kept1 (by simp [go_sem]) hbwa
  have ywaf : ∀ o, wa.frozen? ⟨w.heap.size, o, none⟩ = false := kept_fr2 (fun o => by simp [go_sem]) (by simp) hbwa
  have ywab : Below w.heap.size w wa := bstep1 (Below.refl _ _) hbwa
  clear hbwa 
  have ywal : w.heap.size < wa.heap.size := block_lt_of_cell ywa0
  go_wp2_with fail
  refine (HV.out _).mono ?_
  rintro e wc ⟨rfl, hbwc⟩
  have ywc0 : wc.cell? ⟨w.heap.size, 0, none⟩ = some (.int .i64 0) := kept1 (cell_alloc ywa0 _) hbwc
  have ywc1 : wc.cell? ⟨w.heap.size, 1, none⟩ = some (.int .i64 0) := kept1 (cell_alloc ywa1 _) hbwc
  have ywc2 : wc.cell? ⟨w.heap.size, 2, none⟩ = some (.int .i64 0) := kept1 (cell_alloc ywa2 _) hbwc
  have rwc0 : wc.cell? ⟨wa.heap.size, 0, none⟩ = some (.int .i64 N) := kept1 (by simp [go_sem]) hbwc
  have rwc1 : wc.cell? ⟨wa.heap.size, 1, none⟩ = some (.int .i64 1) := kept1 (by simp [go_sem]) hbwc
  have ywcf : ∀ o, wc.frozen? ⟨w.heap.size, o, none⟩ = false := fz_alloc2 ywaf ywal hbwc
  have ywcb : Below w.heap.size w wc := bstep1 ywab hbwc
  clear hbwc ywa0 ywa1 ywa2 ywaf ywab ywal
  have ywcl : w.heap.size < wc.heap.size := block_lt_of_cell ywc0
  go_wp2_with fail
  refine (HP.out _).mono ?_
  rintro e wd ⟨rfl, hbwd⟩
  have ywd0 : wd.cell? ⟨w.heap.size, 0, none⟩ = some (.int .i64 0) := kept1 ywc0 hbwd
  have ywd1 : wd.cell? ⟨w.heap.size, 1, none⟩ = some (.int .i64 0) := kept1 ywc1 hbwd
  have ywd2 : wd.cell? ⟨w.heap.size, 2, none⟩ = some (.int .i64 0) := kept1 ywc2 hbwd
  have rwd0 : wd.cell? ⟨wa.heap.size, 0, none⟩ = some (.int .i64 N) := kept1 rwc0 hbwd
  have rwd1 : wd.cell? ⟨wa.heap.size, 1, none⟩ = some (.int .i64 1) := kept1 rwc1 hbwd
  clear rwc0 rwc1
  have ywdf : ∀ o, wd.frozen? ⟨w.heap.size, o, none⟩ = false := kept_fr2 ywcf (block_lt_of_cell ywc0) hbwd
  have ywdb : Below w.heap.size w wd := bstep0 ywcb hbwd
  clear hbwd ywc0 ywc1 ywc2 ywcf ywcb ywcl
  have ywdl : w.heap.size < wd.heap.size := block_lt_of_cell ywd0
  have zm : w.heap.size < wd.heap.size + 1 := by omega
  go_wp2
  refine bodyPost_ret (v := .agg #[.int .i64 N, .int .i64 1, .int .i64 0]) (by simp [results, Tryd.results70, go_sem, *]) rfl ?_
  exact ⟨rfl, (by repeat (first | with_reducible exact Below.refl _ _ | with_reducible assumption | refine below_drewN ?_ _ | refine Below.drew ?_ | refine Below.alloc ?_ (by first | (simp; done) | (simp; omega) | omega) _ | refine Below.setCell ?_ (by first | (simp; done) | (simp; omega) | omega) _ | refine Below.trans ?_ (Below.mono (by assumption) (by first | (simp; done) | (simp; omega) | omega))))⟩

set_option maxRecDepth 100000 in
set_option maxHeartbeats 2000000 in
theorem rparse_F1_F1_bad (s : ByteArray) (hs : (s.size : Int) ≤ 60) (N : Int) (B : Nat) (_ : 0 ≤ N) (_ : N ≤ 20000000000) (h0 : 0 < s.size) (c : UInt8) (hc0 : s[0]'h0 = c) (hc1 : ¬ (c.toNat : Int) = 45) (g0 : B < s.size) (d : UInt8) (gc : s[B]'g0 = d) (gd : ¬ (d.toNat : Int) = 47) (HD1 : Hid (∀ W : World, Calls Tryd.prog 110 #[.string s, .int .i64 0] W fun e w' => e = .returned (.tuple #[.int .i64 N, .int .i64 (B : Int)]) ∧ Below W.heap.size W w')) (HV : Hid (∀ W : World, Calls Tryd.prog 22 #[.agg #[.int .i64 N, .int .i64 1]] W fun e w' => e = .returned (.bool false) ∧ Below W.heap.size W w')) (w : World) :
    Calls Tryd.prog 70 #[.string s] w fun e w' => e = .returned (.agg #[.int .i64 0, .int .i64 0, .int .i64 7]) ∧ Below w.heap.size w w' := by
  have i0 : (0 : Int) < (s.size : Int) := by omega
  have j0 : (B : Int) < (s.size : Int) := by omega
  go_enter Tryd.func70, Tryd.ntmps70
  go_wp2_with fail
  refine (HD1.out _).mono ?_
  rintro e wa ⟨rfl, hbwa⟩
  have ywa0 : wa.cell? ⟨w.heap.size, 0, none⟩ = some (.int .i64 0) := kept1 (by simp [go_sem]) hbwa
  have ywa1 : wa.cell? ⟨w.heap.size, 1, none⟩ = some (.int .i64 0) := kept1 (by simp [go_sem]) hbwa
  have ywa2 : wa.cell? ⟨w.heap.size, 2, none⟩ = some (.int .i64 0) := kept1 (by simp [go_sem]) hbwa
  have ywaf : ∀ o, wa.frozen? ⟨w.heap.size, o, none⟩ = false := kept_fr2 (fun o => by simp [go_sem]) (by simp) hbwa
  have ywab : Below w.heap.size w wa := bstep1 (Below.refl _ _) hbwa
  clear hbwa 
  have ywal : w.heap.size < wa.heap.size := block_lt_of_cell ywa0
  go_wp2_with fail
  refine (HV.out _).mono ?_
  rintro e wc ⟨rfl, hbwc⟩
  have ywc0 : wc.cell? ⟨w.heap.size, 0, none⟩ = some (.int .i64 0) := kept1 (cell_alloc ywa0 _) hbwc
  have ywc1 : wc.cell? ⟨w.heap.size, 1, none⟩ = some (.int .i64 0) := kept1 (cell_alloc ywa1 _) hbwc
  have ywc2 : wc.cell? ⟨w.heap.size, 2, none⟩ = some (.int .i64 0) := kept1 (cell_alloc ywa2 _) hbwc
  have rwc0 : wc.cell? ⟨wa.heap.size, 0, none⟩ = some (.int .i64 N) := kept1 (by simp [go_sem]) hbwc
  have rwc1 : wc.cell? ⟨wa.heap.size, 1, none⟩ = some (.int .i64 1) := kept1 (by simp [go_sem]) hbwc
  have ywcf : ∀ o, wc.frozen? ⟨w.heap.size, o, none⟩ = false := fz_alloc2 ywaf ywal hbwc
  have ywcb : Below w.heap.size w wc := bstep1 ywab hbwc
  clear hbwc ywa0 ywa1 ywa2 ywaf ywab ywal
  have ywcl : w.heap.size < wc.heap.size := block_lt_of_cell ywc0
  have zm : w.heap.size < wc.heap.size + 1 := by omega
  go_wp2
  refine bodyPost_ret (v := .agg #[.int .i64 0, .int .i64 0, .int .i64 7]) (by simp [results, Tryd.results70, go_sem, *]) rfl ?_
  exact ⟨rfl, (by repeat (first | with_reducible exact Below.refl _ _ | with_reducible assumption | refine below_drewN ?_ _ | refine Below.drew ?_ | refine Below.alloc ?_ (by first | (simp; done) | (simp; omega) | omega) _ | refine Below.setCell ?_ (by first | (simp; done) | (simp; omega) | omega) _ | refine Below.trans ?_ (Below.mono (by assumption) (by first | (simp; done) | (simp; omega) | omega))))⟩

set_option maxRecDepth 100000 in
set_option maxHeartbeats 2000000 in
theorem rparse_F1_F1_ne (s : ByteArray) (hs : (s.size : Int) ≤ 60) (N : Int) (B : Nat) (_ : 0 ≤ N) (_ : N ≤ 20000000000) (h0 : 0 < s.size) (c : UInt8) (hc0 : s[0]'h0 = c) (hc1 : ¬ (c.toNat : Int) = 45) (g0 : B < s.size) (d : UInt8) (gc : s[B]'g0 = d) (gd : ¬ (d.toNat : Int) = 47) (HD1 : Hid (∀ W : World, Calls Tryd.prog 110 #[.string s, .int .i64 0] W fun e w' => e = .returned (.tuple #[.int .i64 N, .int .i64 (B : Int)]) ∧ Below W.heap.size W w')) (HV : Hid (∀ W : World, Calls Tryd.prog 22 #[.agg #[.int .i64 N, .int .i64 1]] W fun e w' => e = .returned (.bool true) ∧ Below W.heap.size W w')) (T : ByteArray) (hnb : (T.toList == s.toList) = false) (HP : Hid (∀ W : World, Calls Tryd.prog 71 #[.agg #[.int .i64 N, .int .i64 1]] W fun e w' => e = .returned (.string T) ∧ Below W.heap.size W w')) (w : World) :
    Calls Tryd.prog 70 #[.string s] w fun e w' => e = .returned (.agg #[.int .i64 0, .int .i64 0, .int .i64 7]) ∧ Below w.heap.size w w' := by
  have i0 : (0 : Int) < (s.size : Int) := by omega
  have j0 : (B : Int) < (s.size : Int) := by omega
  go_enter Tryd.func70, Tryd.ntmps70
  go_wp2_with fail
  refine (HD1.out _).mono ?_
  rintro e wa ⟨rfl, hbwa⟩
  have ywa0 : wa.cell? ⟨w.heap.size, 0, none⟩ = some (.int .i64 0) := kept1 (by simp [go_sem]) hbwa
  have ywa1 : wa.cell? ⟨w.heap.size, 1, none⟩ = some (.int .i64 0) := kept1 (by simp [go_sem]) hbwa
  have ywa2 : wa.cell? ⟨w.heap.size, 2, none⟩ = some (.int .i64 0) := kept1 (by simp [go_sem]) hbwa
  have ywaf : ∀ o, wa.frozen? ⟨w.heap.size, o, none⟩ = false := kept_fr2 (fun o => by simp [go_sem]) (by simp) hbwa
  have ywab : Below w.heap.size w wa := bstep1 (Below.refl _ _) hbwa
  clear hbwa 
  have ywal : w.heap.size < wa.heap.size := block_lt_of_cell ywa0
  go_wp2_with fail
  refine (HV.out _).mono ?_
  rintro e wc ⟨rfl, hbwc⟩
  have ywc0 : wc.cell? ⟨w.heap.size, 0, none⟩ = some (.int .i64 0) := kept1 (cell_alloc ywa0 _) hbwc
  have ywc1 : wc.cell? ⟨w.heap.size, 1, none⟩ = some (.int .i64 0) := kept1 (cell_alloc ywa1 _) hbwc
  have ywc2 : wc.cell? ⟨w.heap.size, 2, none⟩ = some (.int .i64 0) := kept1 (cell_alloc ywa2 _) hbwc
  have rwc0 : wc.cell? ⟨wa.heap.size, 0, none⟩ = some (.int .i64 N) := kept1 (by simp [go_sem]) hbwc
  have rwc1 : wc.cell? ⟨wa.heap.size, 1, none⟩ = some (.int .i64 1) := kept1 (by simp [go_sem]) hbwc
  have ywcf : ∀ o, wc.frozen? ⟨w.heap.size, o, none⟩ = false := fz_alloc2 ywaf ywal hbwc
  have ywcb : Below w.heap.size w wc := bstep1 ywab hbwc
  clear hbwc ywa0 ywa1 ywa2 ywaf ywab ywal
  have ywcl : w.heap.size < wc.heap.size := block_lt_of_cell ywc0
  go_wp2_with fail
  refine (HP.out _).mono ?_
  rintro e wd ⟨rfl, hbwd⟩
  have ywd0 : wd.cell? ⟨w.heap.size, 0, none⟩ = some (.int .i64 0) := kept1 ywc0 hbwd
  have ywd1 : wd.cell? ⟨w.heap.size, 1, none⟩ = some (.int .i64 0) := kept1 ywc1 hbwd
  have ywd2 : wd.cell? ⟨w.heap.size, 2, none⟩ = some (.int .i64 0) := kept1 ywc2 hbwd
  have rwd0 : wd.cell? ⟨wa.heap.size, 0, none⟩ = some (.int .i64 N) := kept1 rwc0 hbwd
  have rwd1 : wd.cell? ⟨wa.heap.size, 1, none⟩ = some (.int .i64 1) := kept1 rwc1 hbwd
  clear rwc0 rwc1
  have ywdf : ∀ o, wd.frozen? ⟨w.heap.size, o, none⟩ = false := kept_fr2 ywcf (block_lt_of_cell ywc0) hbwd
  have ywdb : Below w.heap.size w wd := bstep0 ywcb hbwd
  clear hbwd ywc0 ywc1 ywc2 ywcf ywcb ywcl
  have ywdl : w.heap.size < wd.heap.size := block_lt_of_cell ywd0
  have zm : w.heap.size < wd.heap.size + 1 := by omega
  go_wp2
  refine bodyPost_ret (v := .agg #[.int .i64 0, .int .i64 0, .int .i64 7]) (by simp [results, Tryd.results70, go_sem, *]) rfl ?_
  exact ⟨rfl, (by repeat (first | with_reducible exact Below.refl _ _ | with_reducible assumption | refine below_drewN ?_ _ | refine Below.drew ?_ | refine Below.alloc ?_ (by first | (simp; done) | (simp; omega) | omega) _ | refine Below.setCell ?_ (by first | (simp; done) | (simp; omega) | omega) _ | refine Below.trans ?_ (Below.mono (by assumption) (by first | (simp; done) | (simp; omega) | omega))))⟩

set_option maxRecDepth 100000 in
set_option maxHeartbeats 2000000 in
theorem rparse_F1_F1_eq (s : ByteArray) (hs : (s.size : Int) ≤ 60) (N : Int) (B : Nat) (_ : 0 ≤ N) (_ : N ≤ 20000000000) (h0 : 0 < s.size) (c : UInt8) (hc0 : s[0]'h0 = c) (hc1 : ¬ (c.toNat : Int) = 45) (g0 : B < s.size) (d : UInt8) (gc : s[B]'g0 = d) (gd : ¬ (d.toNat : Int) = 47) (HD1 : Hid (∀ W : World, Calls Tryd.prog 110 #[.string s, .int .i64 0] W fun e w' => e = .returned (.tuple #[.int .i64 N, .int .i64 (B : Int)]) ∧ Below W.heap.size W w')) (HV : Hid (∀ W : World, Calls Tryd.prog 22 #[.agg #[.int .i64 N, .int .i64 1]] W fun e w' => e = .returned (.bool true) ∧ Below W.heap.size W w')) (HP : Hid (∀ W : World, Calls Tryd.prog 71 #[.agg #[.int .i64 N, .int .i64 1]] W fun e w' => e = .returned (.string s) ∧ Below W.heap.size W w')) (w : World) :
    Calls Tryd.prog 70 #[.string s] w fun e w' => e = .returned (.agg #[.int .i64 N, .int .i64 1, .int .i64 0]) ∧ Below w.heap.size w w' := by
  have i0 : (0 : Int) < (s.size : Int) := by omega
  have j0 : (B : Int) < (s.size : Int) := by omega
  go_enter Tryd.func70, Tryd.ntmps70
  go_wp2_with fail
  refine (HD1.out _).mono ?_
  rintro e wa ⟨rfl, hbwa⟩
  have ywa0 : wa.cell? ⟨w.heap.size, 0, none⟩ = some (.int .i64 0) := kept1 (by simp [go_sem]) hbwa
  have ywa1 : wa.cell? ⟨w.heap.size, 1, none⟩ = some (.int .i64 0) := kept1 (by simp [go_sem]) hbwa
  have ywa2 : wa.cell? ⟨w.heap.size, 2, none⟩ = some (.int .i64 0) := kept1 (by simp [go_sem]) hbwa
  have ywaf : ∀ o, wa.frozen? ⟨w.heap.size, o, none⟩ = false := kept_fr2 (fun o => by simp [go_sem]) (by simp) hbwa
  have ywab : Below w.heap.size w wa := bstep1 (Below.refl _ _) hbwa
  clear hbwa 
  have ywal : w.heap.size < wa.heap.size := block_lt_of_cell ywa0
  go_wp2_with fail
  refine (HV.out _).mono ?_
  rintro e wc ⟨rfl, hbwc⟩
  have ywc0 : wc.cell? ⟨w.heap.size, 0, none⟩ = some (.int .i64 0) := kept1 (cell_alloc ywa0 _) hbwc
  have ywc1 : wc.cell? ⟨w.heap.size, 1, none⟩ = some (.int .i64 0) := kept1 (cell_alloc ywa1 _) hbwc
  have ywc2 : wc.cell? ⟨w.heap.size, 2, none⟩ = some (.int .i64 0) := kept1 (cell_alloc ywa2 _) hbwc
  have rwc0 : wc.cell? ⟨wa.heap.size, 0, none⟩ = some (.int .i64 N) := kept1 (by simp [go_sem]) hbwc
  have rwc1 : wc.cell? ⟨wa.heap.size, 1, none⟩ = some (.int .i64 1) := kept1 (by simp [go_sem]) hbwc
  have ywcf : ∀ o, wc.frozen? ⟨w.heap.size, o, none⟩ = false := fz_alloc2 ywaf ywal hbwc
  have ywcb : Below w.heap.size w wc := bstep1 ywab hbwc
  clear hbwc ywa0 ywa1 ywa2 ywaf ywab ywal
  have ywcl : w.heap.size < wc.heap.size := block_lt_of_cell ywc0
  go_wp2_with fail
  refine (HP.out _).mono ?_
  rintro e wd ⟨rfl, hbwd⟩
  have ywd0 : wd.cell? ⟨w.heap.size, 0, none⟩ = some (.int .i64 0) := kept1 ywc0 hbwd
  have ywd1 : wd.cell? ⟨w.heap.size, 1, none⟩ = some (.int .i64 0) := kept1 ywc1 hbwd
  have ywd2 : wd.cell? ⟨w.heap.size, 2, none⟩ = some (.int .i64 0) := kept1 ywc2 hbwd
  have rwd0 : wd.cell? ⟨wa.heap.size, 0, none⟩ = some (.int .i64 N) := kept1 rwc0 hbwd
  have rwd1 : wd.cell? ⟨wa.heap.size, 1, none⟩ = some (.int .i64 1) := kept1 rwc1 hbwd
  clear rwc0 rwc1
  have ywdf : ∀ o, wd.frozen? ⟨w.heap.size, o, none⟩ = false := kept_fr2 ywcf (block_lt_of_cell ywc0) hbwd
  have ywdb : Below w.heap.size w wd := bstep0 ywcb hbwd
  clear hbwd ywc0 ywc1 ywc2 ywcf ywcb ywcl
  have ywdl : w.heap.size < wd.heap.size := block_lt_of_cell ywd0
  have zm : w.heap.size < wd.heap.size + 1 := by omega
  go_wp2
  refine bodyPost_ret (v := .agg #[.int .i64 N, .int .i64 1, .int .i64 0]) (by simp [results, Tryd.results70, go_sem, *]) rfl ?_
  exact ⟨rfl, (by repeat (first | with_reducible exact Below.refl _ _ | with_reducible assumption | refine below_drewN ?_ _ | refine Below.drew ?_ | refine Below.alloc ?_ (by first | (simp; done) | (simp; omega) | omega) _ | refine Below.setCell ?_ (by first | (simp; done) | (simp; omega) | omega) _ | refine Below.trans ?_ (Below.mono (by assumption) (by first | (simp; done) | (simp; omega) | omega))))⟩

set_option maxRecDepth 100000 in
set_option maxHeartbeats 2000000 in
theorem rparse_F0_F0_bad (s : ByteArray) (hs : (s.size : Int) ≤ 60) (N : Int) (B : Nat) (_ : 0 ≤ N) (_ : N ≤ 20000000000) (h0 : ¬ (0 : Int) < (s.size : Int)) (g0 : ¬ (B : Int) < (s.size : Int)) (HD1 : Hid (∀ W : World, Calls Tryd.prog 110 #[.string s, .int .i64 0] W fun e w' => e = .returned (.tuple #[.int .i64 N, .int .i64 (B : Int)]) ∧ Below W.heap.size W w')) (HV : Hid (∀ W : World, Calls Tryd.prog 22 #[.agg #[.int .i64 N, .int .i64 1]] W fun e w' => e = .returned (.bool false) ∧ Below W.heap.size W w')) (w : World) :
    Calls Tryd.prog 70 #[.string s] w fun e w' => e = .returned (.agg #[.int .i64 0, .int .i64 0, .int .i64 7]) ∧ Below w.heap.size w w' := by
  go_enter Tryd.func70, Tryd.ntmps70
  go_wp2_with fail
  refine (HD1.out _).mono ?_
  rintro e wa ⟨rfl, hbwa⟩
  have ywa0 : wa.cell? ⟨w.heap.size, 0, none⟩ = some (.int .i64 0) := kept1 (by simp [go_sem]) hbwa
  have ywa1 : wa.cell? ⟨w.heap.size, 1, none⟩ = some (.int .i64 0) := kept1 (by simp [go_sem]) hbwa
  have ywa2 : wa.cell? ⟨w.heap.size, 2, none⟩ = some (.int .i64 0) := kept1 (by simp [go_sem]) hbwa
  have ywaf : ∀ o, wa.frozen? ⟨w.heap.size, o, none⟩ = false := kept_fr2 (fun o => by simp [go_sem]) (by simp) hbwa
  have ywab : Below w.heap.size w wa := bstep1 (Below.refl _ _) hbwa
  clear hbwa 
  have ywal : w.heap.size < wa.heap.size := block_lt_of_cell ywa0
  go_wp2_with fail
  refine (HV.out _).mono ?_
  rintro e wc ⟨rfl, hbwc⟩
  have ywc0 : wc.cell? ⟨w.heap.size, 0, none⟩ = some (.int .i64 0) := kept1 (cell_alloc ywa0 _) hbwc
  have ywc1 : wc.cell? ⟨w.heap.size, 1, none⟩ = some (.int .i64 0) := kept1 (cell_alloc ywa1 _) hbwc
  have ywc2 : wc.cell? ⟨w.heap.size, 2, none⟩ = some (.int .i64 0) := kept1 (cell_alloc ywa2 _) hbwc
  have rwc0 : wc.cell? ⟨wa.heap.size, 0, none⟩ = some (.int .i64 N) := kept1 (by simp [go_sem]) hbwc
  have rwc1 : wc.cell? ⟨wa.heap.size, 1, none⟩ = some (.int .i64 1) := kept1 (by simp [go_sem]) hbwc
  have ywcf : ∀ o, wc.frozen? ⟨w.heap.size, o, none⟩ = false := fz_alloc2 ywaf ywal hbwc
  have ywcb : Below w.heap.size w wc := bstep1 ywab hbwc
  clear hbwc ywa0 ywa1 ywa2 ywaf ywab ywal
  have ywcl : w.heap.size < wc.heap.size := block_lt_of_cell ywc0
  have zm : w.heap.size < wc.heap.size + 1 := by omega
  go_wp2
  refine bodyPost_ret (v := .agg #[.int .i64 0, .int .i64 0, .int .i64 7]) (by simp [results, Tryd.results70, go_sem, *]) rfl ?_
  exact ⟨rfl, (by repeat (first | with_reducible exact Below.refl _ _ | with_reducible assumption | refine below_drewN ?_ _ | refine Below.drew ?_ | refine Below.alloc ?_ (by first | (simp; done) | (simp; omega) | omega) _ | refine Below.setCell ?_ (by first | (simp; done) | (simp; omega) | omega) _ | refine Below.trans ?_ (Below.mono (by assumption) (by first | (simp; done) | (simp; omega) | omega))))⟩

set_option maxRecDepth 100000 in
set_option maxHeartbeats 2000000 in
theorem rparse_F0_F0_ne (s : ByteArray) (hs : (s.size : Int) ≤ 60) (N : Int) (B : Nat) (_ : 0 ≤ N) (_ : N ≤ 20000000000) (h0 : ¬ (0 : Int) < (s.size : Int)) (g0 : ¬ (B : Int) < (s.size : Int)) (HD1 : Hid (∀ W : World, Calls Tryd.prog 110 #[.string s, .int .i64 0] W fun e w' => e = .returned (.tuple #[.int .i64 N, .int .i64 (B : Int)]) ∧ Below W.heap.size W w')) (HV : Hid (∀ W : World, Calls Tryd.prog 22 #[.agg #[.int .i64 N, .int .i64 1]] W fun e w' => e = .returned (.bool true) ∧ Below W.heap.size W w')) (T : ByteArray) (hnb : (T.toList == s.toList) = false) (HP : Hid (∀ W : World, Calls Tryd.prog 71 #[.agg #[.int .i64 N, .int .i64 1]] W fun e w' => e = .returned (.string T) ∧ Below W.heap.size W w')) (w : World) :
    Calls Tryd.prog 70 #[.string s] w fun e w' => e = .returned (.agg #[.int .i64 0, .int .i64 0, .int .i64 7]) ∧ Below w.heap.size w w' := by
  go_enter Tryd.func70, Tryd.ntmps70
  go_wp2_with fail
  refine (HD1.out _).mono ?_
  rintro e wa ⟨rfl, hbwa⟩
  have ywa0 : wa.cell? ⟨w.heap.size, 0, none⟩ = some (.int .i64 0) := kept1 (by simp [go_sem]) hbwa
  have ywa1 : wa.cell? ⟨w.heap.size, 1, none⟩ = some (.int .i64 0) := kept1 (by simp [go_sem]) hbwa
  have ywa2 : wa.cell? ⟨w.heap.size, 2, none⟩ = some (.int .i64 0) := kept1 (by simp [go_sem]) hbwa
  have ywaf : ∀ o, wa.frozen? ⟨w.heap.size, o, none⟩ = false := kept_fr2 (fun o => by simp [go_sem]) (by simp) hbwa
  have ywab : Below w.heap.size w wa := bstep1 (Below.refl _ _) hbwa
  clear hbwa 
  have ywal : w.heap.size < wa.heap.size := block_lt_of_cell ywa0
  go_wp2_with fail
  refine (HV.out _).mono ?_
  rintro e wc ⟨rfl, hbwc⟩
  have ywc0 : wc.cell? ⟨w.heap.size, 0, none⟩ = some (.int .i64 0) := kept1 (cell_alloc ywa0 _) hbwc
  have ywc1 : wc.cell? ⟨w.heap.size, 1, none⟩ = some (.int .i64 0) := kept1 (cell_alloc ywa1 _) hbwc
  have ywc2 : wc.cell? ⟨w.heap.size, 2, none⟩ = some (.int .i64 0) := kept1 (cell_alloc ywa2 _) hbwc
  have rwc0 : wc.cell? ⟨wa.heap.size, 0, none⟩ = some (.int .i64 N) := kept1 (by simp [go_sem]) hbwc
  have rwc1 : wc.cell? ⟨wa.heap.size, 1, none⟩ = some (.int .i64 1) := kept1 (by simp [go_sem]) hbwc
  have ywcf : ∀ o, wc.frozen? ⟨w.heap.size, o, none⟩ = false := fz_alloc2 ywaf ywal hbwc
  have ywcb : Below w.heap.size w wc := bstep1 ywab hbwc
  clear hbwc ywa0 ywa1 ywa2 ywaf ywab ywal
  have ywcl : w.heap.size < wc.heap.size := block_lt_of_cell ywc0
  go_wp2_with fail
  refine (HP.out _).mono ?_
  rintro e wd ⟨rfl, hbwd⟩
  have ywd0 : wd.cell? ⟨w.heap.size, 0, none⟩ = some (.int .i64 0) := kept1 ywc0 hbwd
  have ywd1 : wd.cell? ⟨w.heap.size, 1, none⟩ = some (.int .i64 0) := kept1 ywc1 hbwd
  have ywd2 : wd.cell? ⟨w.heap.size, 2, none⟩ = some (.int .i64 0) := kept1 ywc2 hbwd
  have rwd0 : wd.cell? ⟨wa.heap.size, 0, none⟩ = some (.int .i64 N) := kept1 rwc0 hbwd
  have rwd1 : wd.cell? ⟨wa.heap.size, 1, none⟩ = some (.int .i64 1) := kept1 rwc1 hbwd
  clear rwc0 rwc1
  have ywdf : ∀ o, wd.frozen? ⟨w.heap.size, o, none⟩ = false := kept_fr2 ywcf (block_lt_of_cell ywc0) hbwd
  have ywdb : Below w.heap.size w wd := bstep0 ywcb hbwd
  clear hbwd ywc0 ywc1 ywc2 ywcf ywcb ywcl
  have ywdl : w.heap.size < wd.heap.size := block_lt_of_cell ywd0
  have zm : w.heap.size < wd.heap.size + 1 := by omega
  go_wp2
  refine bodyPost_ret (v := .agg #[.int .i64 0, .int .i64 0, .int .i64 7]) (by simp [results, Tryd.results70, go_sem, *]) rfl ?_
  exact ⟨rfl, (by repeat (first | with_reducible exact Below.refl _ _ | with_reducible assumption | refine below_drewN ?_ _ | refine Below.drew ?_ | refine Below.alloc ?_ (by first | (simp; done) | (simp; omega) | omega) _ | refine Below.setCell ?_ (by first | (simp; done) | (simp; omega) | omega) _ | refine Below.trans ?_ (Below.mono (by assumption) (by first | (simp; done) | (simp; omega) | omega))))⟩

set_option maxRecDepth 100000 in
set_option maxHeartbeats 2000000 in
theorem rparse_F0_F0_eq (s : ByteArray) (hs : (s.size : Int) ≤ 60) (N : Int) (B : Nat) (_ : 0 ≤ N) (_ : N ≤ 20000000000) (h0 : ¬ (0 : Int) < (s.size : Int)) (g0 : ¬ (B : Int) < (s.size : Int)) (HD1 : Hid (∀ W : World, Calls Tryd.prog 110 #[.string s, .int .i64 0] W fun e w' => e = .returned (.tuple #[.int .i64 N, .int .i64 (B : Int)]) ∧ Below W.heap.size W w')) (HV : Hid (∀ W : World, Calls Tryd.prog 22 #[.agg #[.int .i64 N, .int .i64 1]] W fun e w' => e = .returned (.bool true) ∧ Below W.heap.size W w')) (HP : Hid (∀ W : World, Calls Tryd.prog 71 #[.agg #[.int .i64 N, .int .i64 1]] W fun e w' => e = .returned (.string s) ∧ Below W.heap.size W w')) (w : World) :
    Calls Tryd.prog 70 #[.string s] w fun e w' => e = .returned (.agg #[.int .i64 N, .int .i64 1, .int .i64 0]) ∧ Below w.heap.size w w' := by
  go_enter Tryd.func70, Tryd.ntmps70
  go_wp2_with fail
  refine (HD1.out _).mono ?_
  rintro e wa ⟨rfl, hbwa⟩
  have ywa0 : wa.cell? ⟨w.heap.size, 0, none⟩ = some (.int .i64 0) := kept1 (by simp [go_sem]) hbwa
  have ywa1 : wa.cell? ⟨w.heap.size, 1, none⟩ = some (.int .i64 0) := kept1 (by simp [go_sem]) hbwa
  have ywa2 : wa.cell? ⟨w.heap.size, 2, none⟩ = some (.int .i64 0) := kept1 (by simp [go_sem]) hbwa
  have ywaf : ∀ o, wa.frozen? ⟨w.heap.size, o, none⟩ = false := kept_fr2 (fun o => by simp [go_sem]) (by simp) hbwa
  have ywab : Below w.heap.size w wa := bstep1 (Below.refl _ _) hbwa
  clear hbwa 
  have ywal : w.heap.size < wa.heap.size := block_lt_of_cell ywa0
  go_wp2_with fail
  refine (HV.out _).mono ?_
  rintro e wc ⟨rfl, hbwc⟩
  have ywc0 : wc.cell? ⟨w.heap.size, 0, none⟩ = some (.int .i64 0) := kept1 (cell_alloc ywa0 _) hbwc
  have ywc1 : wc.cell? ⟨w.heap.size, 1, none⟩ = some (.int .i64 0) := kept1 (cell_alloc ywa1 _) hbwc
  have ywc2 : wc.cell? ⟨w.heap.size, 2, none⟩ = some (.int .i64 0) := kept1 (cell_alloc ywa2 _) hbwc
  have rwc0 : wc.cell? ⟨wa.heap.size, 0, none⟩ = some (.int .i64 N) := kept1 (by simp [go_sem]) hbwc
  have rwc1 : wc.cell? ⟨wa.heap.size, 1, none⟩ = some (.int .i64 1) := kept1 (by simp [go_sem]) hbwc
  have ywcf : ∀ o, wc.frozen? ⟨w.heap.size, o, none⟩ = false := fz_alloc2 ywaf ywal hbwc
  have ywcb : Below w.heap.size w wc := bstep1 ywab hbwc
  clear hbwc ywa0 ywa1 ywa2 ywaf ywab ywal
  have ywcl : w.heap.size < wc.heap.size := block_lt_of_cell ywc0
  go_wp2_with fail
  refine (HP.out _).mono ?_
  rintro e wd ⟨rfl, hbwd⟩
  have ywd0 : wd.cell? ⟨w.heap.size, 0, none⟩ = some (.int .i64 0) := kept1 ywc0 hbwd
  have ywd1 : wd.cell? ⟨w.heap.size, 1, none⟩ = some (.int .i64 0) := kept1 ywc1 hbwd
  have ywd2 : wd.cell? ⟨w.heap.size, 2, none⟩ = some (.int .i64 0) := kept1 ywc2 hbwd
  have rwd0 : wd.cell? ⟨wa.heap.size, 0, none⟩ = some (.int .i64 N) := kept1 rwc0 hbwd
  have rwd1 : wd.cell? ⟨wa.heap.size, 1, none⟩ = some (.int .i64 1) := kept1 rwc1 hbwd
  clear rwc0 rwc1
  have ywdf : ∀ o, wd.frozen? ⟨w.heap.size, o, none⟩ = false := kept_fr2 ywcf (block_lt_of_cell ywc0) hbwd
  have ywdb : Below w.heap.size w wd := bstep0 ywcb hbwd
  clear hbwd ywc0 ywc1 ywc2 ywcf ywcb ywcl
  have ywdl : w.heap.size < wd.heap.size := block_lt_of_cell ywd0
  have zm : w.heap.size < wd.heap.size + 1 := by omega
  go_wp2
  refine bodyPost_ret (v := .agg #[.int .i64 N, .int .i64 1, .int .i64 0]) (by simp [results, Tryd.results70, go_sem, *]) rfl ?_
  exact ⟨rfl, (by repeat (first | with_reducible exact Below.refl _ _ | with_reducible assumption | refine below_drewN ?_ _ | refine Below.drew ?_ | refine Below.alloc ?_ (by first | (simp; done) | (simp; omega) | omega) _ | refine Below.setCell ?_ (by first | (simp; done) | (simp; omega) | omega) _ | refine Below.trans ?_ (Below.mono (by assumption) (by first | (simp; done) | (simp; omega) | omega))))⟩

end Go.Proofs.YtffabmojbelaaaaDoor
