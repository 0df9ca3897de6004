/- Parse of package exact, a way each. -/
import Derived.Test.YtffabmojbelaaaaDoorDg
import Derived.Test.YtffabmojbelaaaaDoorKq
namespace Go.Proofs.YtffabmojbelaaaaDoor
open Go.RowKit

theorem kept_fr3 {W W' : World} {b : Nat} (h : ∀ o, W.frozen? ⟨b, o, none⟩ = false) (hl : b < W.heap.size) (hb : Below W.heap.size W W') : ∀ o, W'.frozen? ⟨b, o, none⟩ = false := fun o => (hb.frozen (p := ⟨b, o, none⟩) hl).trans (h o)
theorem fz_alloc3 {W W' : World} {o : Obj} {b : Nat} (h : ∀ i, W.frozen? ⟨b, i, none⟩ = false) (hl : b < W.heap.size) (hb : Below (W.alloc o).heap.size (W.alloc o) W') : ∀ i, W'.frozen? ⟨b, i, none⟩ = false := fun i =>
  (hb.frozen (p := ⟨b, i, none⟩) (by show b < (W.alloc o).heap.size; simp; omega)).trans ((((Below.refl _ _).alloc (Nat.le_refl _) o).frozen (p := ⟨b, i, none⟩) hl).trans (h i))

set_option maxRecDepth 100000 in
set_option maxHeartbeats 2000000 in
theorem xparse_T_ee (s a b : ByteArray) (w : World) (HC : Hid (∀ W : World, Below w.heap.size w W → Calls Tryd.prog 108 #[.string s, .string { data := #[47] }] W fun e w' => e = .returned (.tuple #[.string a, .string b, .bool true]) ∧ Below W.heap.size W w')) (HL : Hid (∀ W : World, Below w.heap.size w W → Calls Tryd.prog 109 #[.string a] W fun e w' => (∃ (x : Int) (N : Nat), e = .returned (.tuple #[.int .i64 x, .iface 135 (.pointer (some ⟨N, 0, none⟩))])) ∧ Below W.heap.size W w')) (HR : Hid (∀ W : World, Below w.heap.size w W → Calls Tryd.prog 109 #[.string b] W fun e w' => (∃ (x : Int) (N : Nat), e = .returned (.tuple #[.int .i64 x, .iface 135 (.pointer (some ⟨N, 0, none⟩))])) ∧ Below W.heap.size W w')) :
    Calls Tryd.prog 69 #[.string s] w fun e w' => e = .returned (.tuple #[.agg #[.int .i64 0, .int .i64 0], .int .i64 7]) ∧ Below w.heap.size w w' := by
  go_enter Tryd.func69, Tryd.ntmps69
  go_wp2_with fail
  refine (HC.out _ (below_alloc (Below.refl _ _) _)).mono ?_
  rintro e wa ⟨rfl, hbwa⟩
  have ywa0 : wa.cell? ⟨w.heap.size, 0, none⟩ = some (.int .i64 0) := kept1 (by simp [go_sem]) hbwa
  have ywa1 : wa.cell? ⟨w.heap.size, 1, none⟩ = some (.int .i64 0) := kept1 (by simp [go_sem]) hbwa
  have ywaf : ∀ o, wa.frozen? ⟨w.heap.size, o, none⟩ = false := kept_fr3 (fun o => by simp [go_sem]) (by simp) hbwa
  have ywab : Below w.heap.size w wa := bstep1 (Below.refl _ _) hbwa
  clear hbwa 
  have ywal : w.heap.size < wa.heap.size := block_lt_of_cell ywa0
  go_wp2_with fail
  refine (HL.out _ ywab).mono ?_
  rintro e wb ⟨⟨xwb, Nwb, rfl⟩, hbwb⟩
  have ywb0 : wb.cell? ⟨w.heap.size, 0, none⟩ = some (.int .i64 0) := kept1 ywa0 hbwb
  have ywb1 : wb.cell? ⟨w.heap.size, 1, none⟩ = some (.int .i64 0) := kept1 ywa1 hbwb
  have ywbf : ∀ o, wb.frozen? ⟨w.heap.size, o, none⟩ = false := kept_fr3 ywaf (block_lt_of_cell ywa0) hbwb
  have ywbb : Below w.heap.size w wb := bstep0 ywab hbwb
  clear hbwb ywa0 ywa1 ywaf ywab ywal
  have ywbl : w.heap.size < wb.heap.size := block_lt_of_cell ywb0
  go_wp2_with fail
  refine (HR.out _ ywbb).mono ?_
  rintro e wc ⟨⟨xwc, Nwc, rfl⟩, hbwc⟩
  have ywc0 : wc.cell? ⟨w.heap.size, 0, none⟩ = some (.int .i64 0) := kept1 ywb0 hbwc
  have ywc1 : wc.cell? ⟨w.heap.size, 1, none⟩ = some (.int .i64 0) := kept1 ywb1 hbwc
  have ywcf : ∀ o, wc.frozen? ⟨w.heap.size, o, none⟩ = false := kept_fr3 ywbf (block_lt_of_cell ywb0) hbwc
  have ywcb : Below w.heap.size w wc := bstep0 ywbb hbwc
  clear hbwc ywb0 ywb1 ywbf ywbb ywbl
  have ywcl : w.heap.size < wc.heap.size := block_lt_of_cell ywc0
  have zm : w.heap.size < wc.heap.size + 1 := by omega
  go_wp2
  refine bodyPost_ret (v := .tuple #[.agg #[.int .i64 0, .int .i64 0], .int .i64 7]) (by simp [results, Tryd.results69, go_sem, *]) rfl ?_
  exact ⟨rfl, (by repeat (first | with_reducible exact Below.refl _ _ | with_reducible assumption | refine below_drewN ?_ _ | refine Below.drew ?_ | refine Below.alloc ?_ (by first | (simp; done) | (simp; omega) | omega) _ | refine Below.setCell ?_ (by first | (simp; done) | (simp; omega) | omega) _ | refine Below.trans ?_ (Below.mono (by assumption) (by first | (simp; done) | (simp; omega) | omega))))⟩

set_option maxRecDepth 100000 in
set_option maxHeartbeats 2000000 in
theorem xparse_T_eo (s a b : ByteArray) (d : Int) (w : World) (HC : Hid (∀ W : World, Below w.heap.size w W → Calls Tryd.prog 108 #[.string s, .string { data := #[47] }] W fun e w' => e = .returned (.tuple #[.string a, .string b, .bool true]) ∧ Below W.heap.size W w')) (HL : Hid (∀ W : World, Below w.heap.size w W → Calls Tryd.prog 109 #[.string a] W fun e w' => (∃ (x : Int) (N : Nat), e = .returned (.tuple #[.int .i64 x, .iface 135 (.pointer (some ⟨N, 0, none⟩))])) ∧ Below W.heap.size W w')) (HR : Hid (∀ W : World, Below w.heap.size w W → Calls Tryd.prog 109 #[.string b] W fun e w' => e = .returned (.tuple #[.int .i64 d, .nilIface]) ∧ Below W.heap.size W w')) :
    Calls Tryd.prog 69 #[.string s] w fun e w' => e = .returned (.tuple #[.agg #[.int .i64 0, .int .i64 0], .int .i64 7]) ∧ Below w.heap.size w w' := by
  go_enter Tryd.func69, Tryd.ntmps69
  go_wp2_with fail
  refine (HC.out _ (below_alloc (Below.refl _ _) _)).mono ?_
  rintro e wa ⟨rfl, hbwa⟩
  have ywa0 : wa.cell? ⟨w.heap.size, 0, none⟩ = some (.int .i64 0) := kept1 (by simp [go_sem]) hbwa
  have ywa1 : wa.cell? ⟨w.heap.size, 1, none⟩ = some (.int .i64 0) := kept1 (by simp [go_sem]) hbwa
  have ywaf : ∀ o, wa.frozen? ⟨w.heap.size, o, none⟩ = false := kept_fr3 (fun o => by simp [go_sem]) (by simp) hbwa
  have ywab : Below w.heap.size w wa := bstep1 (Below.refl _ _) hbwa
  clear hbwa 
  have ywal : w.heap.size < wa.heap.size := block_lt_of_cell ywa0
  go_wp2_with fail
  refine (HL.out _ ywab).mono ?_
  rintro e wb ⟨⟨xwb, Nwb, rfl⟩, hbwb⟩
  have ywb0 : wb.cell? ⟨w.heap.size, 0, none⟩ = some (.int .i64 0) := kept1 ywa0 hbwb
  have ywb1 : wb.cell? ⟨w.heap.size, 1, none⟩ = some (.int .i64 0) := kept1 ywa1 hbwb
  have ywbf : ∀ o, wb.frozen? ⟨w.heap.size, o, none⟩ = false := kept_fr3 ywaf (block_lt_of_cell ywa0) hbwb
  have ywbb : Below w.heap.size w wb := bstep0 ywab hbwb
  clear hbwb ywa0 ywa1 ywaf ywab ywal
  have ywbl : w.heap.size < wb.heap.size := block_lt_of_cell ywb0
  go_wp2_with fail
  refine (HR.out _ ywbb).mono ?_
  rintro e wc ⟨rfl, hbwc⟩
  have ywc0 : wc.cell? ⟨w.heap.size, 0, none⟩ = some (.int .i64 0) := kept1 ywb0 hbwc
  have ywc1 : wc.cell? ⟨w.heap.size, 1, none⟩ = some (.int .i64 0) := kept1 ywb1 hbwc
  have ywcf : ∀ o, wc.frozen? ⟨w.heap.size, o, none⟩ = false := kept_fr3 ywbf (block_lt_of_cell ywb0) hbwc
  have ywcb : Below w.heap.size w wc := bstep0 ywbb hbwc
  clear hbwc ywb0 ywb1 ywbf ywbb ywbl
  have ywcl : w.heap.size < wc.heap.size := block_lt_of_cell ywc0
  have zm : w.heap.size < wc.heap.size + 1 := by omega
  go_wp2
  refine bodyPost_ret (v := .tuple #[.agg #[.int .i64 0, .int .i64 0], .int .i64 7]) (by simp [results, Tryd.results69, go_sem, *]) rfl ?_
  exact ⟨rfl, (by repeat (first | with_reducible exact Below.refl _ _ | with_reducible assumption | refine below_drewN ?_ _ | refine Below.drew ?_ | refine Below.alloc ?_ (by first | (simp; done) | (simp; omega) | omega) _ | refine Below.setCell ?_ (by first | (simp; done) | (simp; omega) | omega) _ | refine Below.trans ?_ (Below.mono (by assumption) (by first | (simp; done) | (simp; omega) | omega))))⟩

set_option maxRecDepth 100000 in
set_option maxHeartbeats 2000000 in
theorem xparse_T_oe (s a b : ByteArray) (n : Int) (w : World) (HC : Hid (∀ W : World, Below w.heap.size w W → Calls Tryd.prog 108 #[.string s, .string { data := #[47] }] W fun e w' => e = .returned (.tuple #[.string a, .string b, .bool true]) ∧ Below W.heap.size W w')) (HL : Hid (∀ W : World, Below w.heap.size w W → Calls Tryd.prog 109 #[.string a] W fun e w' => e = .returned (.tuple #[.int .i64 n, .nilIface]) ∧ Below W.heap.size W w')) (HR : Hid (∀ W : World, Below w.heap.size w W → Calls Tryd.prog 109 #[.string b] W fun e w' => (∃ (x : Int) (N : Nat), e = .returned (.tuple #[.int .i64 x, .iface 135 (.pointer (some ⟨N, 0, none⟩))])) ∧ Below W.heap.size W w')) :
    Calls Tryd.prog 69 #[.string s] w fun e w' => e = .returned (.tuple #[.agg #[.int .i64 0, .int .i64 0], .int .i64 7]) ∧ Below w.heap.size w w' := by
  go_enter Tryd.func69, Tryd.ntmps69
  go_wp2_with fail
  refine (HC.out _ (below_alloc (Below.refl _ _) _)).mono ?_
  rintro e wa ⟨rfl, hbwa⟩
  have ywa0 : wa.cell? ⟨w.heap.size, 0, none⟩ = some (.int .i64 0) := kept1 (by simp [go_sem]) hbwa
  have ywa1 : wa.cell? ⟨w.heap.size, 1, none⟩ = some (.int .i64 0) := kept1 (by simp [go_sem]) hbwa
  have ywaf : ∀ o, wa.frozen? ⟨w.heap.size, o, none⟩ = false := kept_fr3 (fun o => by simp [go_sem]) (by simp) hbwa
  have ywab : Below w.heap.size w wa := bstep1 (Below.refl _ _) hbwa
  clear hbwa 
  have ywal : w.heap.size < wa.heap.size := block_lt_of_cell ywa0
  go_wp2_with fail
  refine (HL.out _ ywab).mono ?_
  rintro e wb ⟨rfl, hbwb⟩
  have ywb0 : wb.cell? ⟨w.heap.size, 0, none⟩ = some (.int .i64 0) := kept1 ywa0 hbwb
  have ywb1 : wb.cell? ⟨w.heap.size, 1, none⟩ = some (.int .i64 0) := kept1 ywa1 hbwb
  have ywbf : ∀ o, wb.frozen? ⟨w.heap.size, o, none⟩ = false := kept_fr3 ywaf (block_lt_of_cell ywa0) hbwb
  have ywbb : Below w.heap.size w wb := bstep0 ywab hbwb
  clear hbwb ywa0 ywa1 ywaf ywab ywal
  have ywbl : w.heap.size < wb.heap.size := block_lt_of_cell ywb0
  go_wp2_with fail
  refine (HR.out _ ywbb).mono ?_
  rintro e wc ⟨⟨xwc, Nwc, rfl⟩, hbwc⟩
  have ywc0 : wc.cell? ⟨w.heap.size, 0, none⟩ = some (.int .i64 0) := kept1 ywb0 hbwc
  have ywc1 : wc.cell? ⟨w.heap.size, 1, none⟩ = some (.int .i64 0) := kept1 ywb1 hbwc
  have ywcf : ∀ o, wc.frozen? ⟨w.heap.size, o, none⟩ = false := kept_fr3 ywbf (block_lt_of_cell ywb0) hbwc
  have ywcb : Below w.heap.size w wc := bstep0 ywbb hbwc
  clear hbwc ywb0 ywb1 ywbf ywbb ywbl
  have ywcl : w.heap.size < wc.heap.size := block_lt_of_cell ywc0
  have zm : w.heap.size < wc.heap.size + 1 := by omega
  go_wp2
  refine bodyPost_ret (v := .tuple #[.agg #[.int .i64 0, .int .i64 0], .int .i64 7]) (by simp [results, Tryd.results69, go_sem, *]) rfl ?_
  exact ⟨rfl, (by repeat (first | with_reducible exact Below.refl _ _ | with_reducible assumption | refine below_drewN ?_ _ | refine Below.drew ?_ | refine Below.alloc ?_ (by first | (simp; done) | (simp; omega) | omega) _ | refine Below.setCell ?_ (by first | (simp; done) | (simp; omega) | omega) _ | refine Below.trans ?_ (Below.mono (by assumption) (by first | (simp; done) | (simp; omega) | omega))))⟩

set_option maxRecDepth 100000 in
set_option maxHeartbeats 2000000 in
theorem xparse_T_bad (s a b : ByteArray) (n : Int) (d : Int) (w : World) (HC : Hid (∀ W : World, Below w.heap.size w W → Calls Tryd.prog 108 #[.string s, .string { data := #[47] }] W fun e w' => e = .returned (.tuple #[.string a, .string b, .bool true]) ∧ Below W.heap.size W w')) (HL : Hid (∀ W : World, Below w.heap.size w W → Calls Tryd.prog 109 #[.string a] W fun e w' => e = .returned (.tuple #[.int .i64 n, .nilIface]) ∧ Below W.heap.size W w')) (HR : Hid (∀ W : World, Below w.heap.size w W → Calls Tryd.prog 109 #[.string b] W fun e w' => e = .returned (.tuple #[.int .i64 d, .nilIface]) ∧ Below W.heap.size W w')) (HP : Hid (∀ W : World, Below w.heap.size w W → Calls Tryd.prog 68 #[.agg #[.int .i64 n, .int .i64 d]] W fun e w' => e = .returned (.tuple #[.string { data := #[] }, .int .i64 1]) ∧ Below W.heap.size W w')) :
    Calls Tryd.prog 69 #[.string s] w fun e w' => e = .returned (.tuple #[.agg #[.int .i64 0, .int .i64 0], .int .i64 7]) ∧ Below w.heap.size w w' := by
  go_enter Tryd.func69, Tryd.ntmps69
  go_wp2_with fail
  refine (HC.out _ (below_alloc (Below.refl _ _) _)).mono ?_
  rintro e wa ⟨rfl, hbwa⟩
  have ywa0 : wa.cell? ⟨w.heap.size, 0, none⟩ = some (.int .i64 0) := kept1 (by simp [go_sem]) hbwa
  have ywa1 : wa.cell? ⟨w.heap.size, 1, none⟩ = some (.int .i64 0) := kept1 (by simp [go_sem]) hbwa
  have ywaf : ∀ o, wa.frozen? ⟨w.heap.size, o, none⟩ = false := kept_fr3 (fun o => by simp [go_sem]) (by simp) hbwa
  have ywab : Below w.heap.size w wa := bstep1 (Below.refl _ _) hbwa
  clear hbwa 
  have ywal : w.heap.size < wa.heap.size := block_lt_of_cell ywa0
  go_wp2_with fail
  refine (HL.out _ ywab).mono ?_
  rintro e wb ⟨rfl, hbwb⟩
  have ywb0 : wb.cell? ⟨w.heap.size, 0, none⟩ = some (.int .i64 0) := kept1 ywa0 hbwb
  have ywb1 : wb.cell? ⟨w.heap.size, 1, none⟩ = some (.int .i64 0) := kept1 ywa1 hbwb
  have ywbf : ∀ o, wb.frozen? ⟨w.heap.size, o, none⟩ = false := kept_fr3 ywaf (block_lt_of_cell ywa0) hbwb
  have ywbb : Below w.heap.size w wb := bstep0 ywab hbwb
  clear hbwb ywa0 ywa1 ywaf ywab ywal
  have ywbl : w.heap.size < wb.heap.size := block_lt_of_cell ywb0
  go_wp2_with fail
  refine (HR.out _ ywbb).mono ?_
  rintro e wc ⟨rfl, hbwc⟩
  have ywc0 : wc.cell? ⟨w.heap.size, 0, none⟩ = some (.int .i64 0) := kept1 ywb0 hbwc
  have ywc1 : wc.cell? ⟨w.heap.size, 1, none⟩ = some (.int .i64 0) := kept1 ywb1 hbwc
  have ywcf : ∀ o, wc.frozen? ⟨w.heap.size, o, none⟩ = false := kept_fr3 ywbf (block_lt_of_cell ywb0) hbwc
  have ywcb : Below w.heap.size w wc := bstep0 ywbb hbwc
  clear hbwc ywb0 ywb1 ywbf ywbb ywbl
  have ywcl : w.heap.size < wc.heap.size := block_lt_of_cell ywc0
  go_wp2_with fail
  refine (HP.out _ (below_alloc ywcb _)).mono ?_
  rintro e wd ⟨rfl, hbwd⟩
  have ywd0 : wd.cell? ⟨w.heap.size, 0, none⟩ = some (.int .i64 0) := kept1 (cell_alloc ywc0 _) hbwd
  have ywd1 : wd.cell? ⟨w.heap.size, 1, none⟩ = some (.int .i64 0) := kept1 (cell_alloc ywc1 _) hbwd
  have ywdf : ∀ o, wd.frozen? ⟨w.heap.size, o, none⟩ = false := fz_alloc3 ywcf ywcl hbwd
  have ywdb : Below w.heap.size w wd := bstep1 ywcb hbwd
  have rr0 : wd.cell? ⟨wc.heap.size, 0, none⟩ = some (.int .i64 n) := kept1 (by simp [go_sem]) hbwd
  have rr1 : wd.cell? ⟨wc.heap.size, 1, none⟩ = some (.int .i64 d) := kept1 (by simp [go_sem]) hbwd
  clear hbwd ywc0 ywc1 ywcf ywcb ywcl
  have ywdl : w.heap.size < wd.heap.size := block_lt_of_cell ywd0
  have zm : w.heap.size < wd.heap.size + 1 := by omega
  go_wp2
  refine bodyPost_ret (v := .tuple #[.agg #[.int .i64 0, .int .i64 0], .int .i64 7]) (by simp [results, Tryd.results69, go_sem, *]) rfl ?_
  exact ⟨rfl, (by repeat (first | with_reducible exact Below.refl _ _ | with_reducible assumption | refine below_drewN ?_ _ | refine Below.drew ?_ | refine Below.alloc ?_ (by first | (simp; done) | (simp; omega) | omega) _ | refine Below.setCell ?_ (by first | (simp; done) | (simp; omega) | omega) _ | refine Below.trans ?_ (Below.mono (by assumption) (by first | (simp; done) | (simp; omega) | omega))))⟩

set_option maxRecDepth 100000 in
set_option maxHeartbeats 2000000 in
theorem xparse_T_ne (s a b : ByteArray) (n : Int) (d : Int) (T : ByteArray) (hnb : (T.toList == s.toList) = false) (w : World) (HC : Hid (∀ W : World, Below w.heap.size w W → Calls Tryd.prog 108 #[.string s, .string { data := #[47] }] W fun e w' => e = .returned (.tuple #[.string a, .string b, .bool true]) ∧ Below W.heap.size W w')) (HL : Hid (∀ W : World, Below w.heap.size w W → Calls Tryd.prog 109 #[.string a] W fun e w' => e = .returned (.tuple #[.int .i64 n, .nilIface]) ∧ Below W.heap.size W w')) (HR : Hid (∀ W : World, Below w.heap.size w W → Calls Tryd.prog 109 #[.string b] W fun e w' => e = .returned (.tuple #[.int .i64 d, .nilIface]) ∧ Below W.heap.size W w')) (HP : Hid (∀ W : World, Below w.heap.size w W → Calls Tryd.prog 68 #[.agg #[.int .i64 n, .int .i64 d]] W fun e w' => e = .returned (.tuple #[.string T, .int .i64 0]) ∧ Below W.heap.size W w')) :
    Calls Tryd.prog 69 #[.string s] w fun e w' => e = .returned (.tuple #[.agg #[.int .i64 0, .int .i64 0], .int .i64 7]) ∧ Below w.heap.size w w' := by
  go_enter Tryd.func69, Tryd.ntmps69
  go_wp2_with fail
  refine (HC.out _ (below_alloc (Below.refl _ _) _)).mono ?_
  rintro e wa ⟨rfl, hbwa⟩
  have ywa0 : wa.cell? ⟨w.heap.size, 0, none⟩ = some (.int .i64 0) := kept1 (by simp [go_sem]) hbwa
  have ywa1 : wa.cell? ⟨w.heap.size, 1, none⟩ = some (.int .i64 0) := kept1 (by simp [go_sem]) hbwa
  have ywaf : ∀ o, wa.frozen? ⟨w.heap.size, o, none⟩ = false := kept_fr3 (fun o => by simp [go_sem]) (by simp) hbwa
  have ywab : Below w.heap.size w wa := bstep1 (Below.refl _ _) hbwa
  clear hbwa 
  have ywal : w.heap.size < wa.heap.size := block_lt_of_cell ywa0
  go_wp2_with fail
  refine (HL.out _ ywab).mono ?_
  rintro e wb ⟨rfl, hbwb⟩
  have ywb0 : wb.cell? ⟨w.heap.size, 0, none⟩ = some (.int .i64 0) := kept1 ywa0 hbwb
  have ywb1 : wb.cell? ⟨w.heap.size, 1, none⟩ = some (.int .i64 0) := kept1 ywa1 hbwb
  have ywbf : ∀ o, wb.frozen? ⟨w.heap.size, o, none⟩ = false := kept_fr3 ywaf (block_lt_of_cell ywa0) hbwb
  have ywbb : Below w.heap.size w wb := bstep0 ywab hbwb
  clear hbwb ywa0 ywa1 ywaf ywab ywal
  have ywbl : w.heap.size < wb.heap.size := block_lt_of_cell ywb0
  go_wp2_with fail
  refine (HR.out _ ywbb).mono ?_
  rintro e wc ⟨rfl, hbwc⟩
  have ywc0 : wc.cell? ⟨w.heap.size, 0, none⟩ = some (.int .i64 0) := kept1 ywb0 hbwc
  have ywc1 : wc.cell? ⟨w.heap.size, 1, none⟩ = some (.int .i64 0) := kept1 ywb1 hbwc
  have ywcf : ∀ o, wc.frozen? ⟨w.heap.size, o, none⟩ = false := kept_fr3 ywbf (block_lt_of_cell ywb0) hbwc
  have ywcb : Below w.heap.size w wc := bstep0 ywbb hbwc
  clear hbwc ywb0 ywb1 ywbf ywbb ywbl
  have ywcl : w.heap.size < wc.heap.size := block_lt_of_cell ywc0
  go_wp2_with fail
  refine (HP.out _ (below_alloc ywcb _)).mono ?_
  rintro e wd ⟨rfl, hbwd⟩
  have ywd0 : wd.cell? ⟨w.heap.size, 0, none⟩ = some (.int .i64 0) := kept1 (cell_alloc ywc0 _) hbwd
  have ywd1 : wd.cell? ⟨w.heap.size, 1, none⟩ = some (.int .i64 0) := kept1 (cell_alloc ywc1 _) hbwd
  have ywdf : ∀ o, wd.frozen? ⟨w.heap.size, o, none⟩ = false := fz_alloc3 ywcf ywcl hbwd
  have ywdb : Below w.heap.size w wd := bstep1 ywcb hbwd
  have rr0 : wd.cell? ⟨wc.heap.size, 0, none⟩ = some (.int .i64 n) := kept1 (by simp [go_sem]) hbwd
  have rr1 : wd.cell? ⟨wc.heap.size, 1, none⟩ = some (.int .i64 d) := kept1 (by simp [go_sem]) hbwd
  clear hbwd ywc0 ywc1 ywcf ywcb ywcl
  have ywdl : w.heap.size < wd.heap.size := block_lt_of_cell ywd0
  have zm : w.heap.size < wd.heap.size + 1 := by omega
  go_wp2
  refine bodyPost_ret (v := .tuple #[.agg #[.int .i64 0, .int .i64 0], .int .i64 7]) (by simp [results, Tryd.results69, go_sem, *]) rfl ?_
  exact ⟨rfl, (by repeat (first | with_reducible exact Below.refl _ _ | with_reducible assumption | refine below_drewN ?_ _ | refine Below.drew ?_ | refine Below.alloc ?_ (by first | (simp; done) | (simp; omega) | omega) _ | refine Below.setCell ?_ (by first | (simp; done) | (simp; omega) | omega) _ | refine Below.trans ?_ (Below.mono (by assumption) (by first | (simp; done) | (simp; omega) | omega))))⟩

set_option maxRecDepth 100000 in
set_option maxHeartbeats 2000000 in
theorem xparse_T_eq (s a b : ByteArray) (n : Int) (d : Int) (w : World) (HC : Hid (∀ W : World, Below w.heap.size w W → Calls Tryd.prog 108 #[.string s, .string { data := #[47] }] W fun e w' => e = .returned (.tuple #[.string a, .string b, .bool true]) ∧ Below W.heap.size W w')) (HL : Hid (∀ W : World, Below w.heap.size w W → Calls Tryd.prog 109 #[.string a] W fun e w' => e = .returned (.tuple #[.int .i64 n, .nilIface]) ∧ Below W.heap.size W w')) (HR : Hid (∀ W : World, Below w.heap.size w W → Calls Tryd.prog 109 #[.string b] W fun e w' => e = .returned (.tuple #[.int .i64 d, .nilIface]) ∧ Below W.heap.size W w')) (HP : Hid (∀ W : World, Below w.heap.size w W → Calls Tryd.prog 68 #[.agg #[.int .i64 n, .int .i64 d]] W fun e w' => e = .returned (.tuple #[.string s, .int .i64 0]) ∧ Below W.heap.size W w')) :
    Calls Tryd.prog 69 #[.string s] w fun e w' => e = .returned (.tuple #[.agg #[.int .i64 n, .int .i64 d], .int .i64 0]) ∧ Below w.heap.size w w' := by
  go_enter Tryd.func69, Tryd.ntmps69
  go_wp2_with fail
  refine (HC.out _ (below_alloc (Below.refl _ _) _)).mono ?_
  rintro e wa ⟨rfl, hbwa⟩
  have ywa0 : wa.cell? ⟨w.heap.size, 0, none⟩ = some (.int .i64 0) := kept1 (by simp [go_sem]) hbwa
  have ywa1 : wa.cell? ⟨w.heap.size, 1, none⟩ = some (.int .i64 0) := kept1 (by simp [go_sem]) hbwa
  have ywaf : ∀ o, wa.frozen? ⟨w.heap.size, o, none⟩ = false := kept_fr3 (fun o => by simp [go_sem]) (by simp) hbwa
  have ywab : Below w.heap.size w wa := bstep1 (Below.refl _ _) hbwa
  clear hbwa 
  have ywal : w.heap.size < wa.heap.size := block_lt_of_cell ywa0
  go_wp2_with fail
  refine (HL.out _ ywab).mono ?_
  rintro e wb ⟨rfl, hbwb⟩
  have ywb0 : wb.cell? ⟨w.heap.size, 0, none⟩ = some (.int .i64 0) := kept1 ywa0 hbwb
  have ywb1 : wb.cell? ⟨w.heap.size, 1, none⟩ = some (.int .i64 0) := kept1 ywa1 hbwb
  have ywbf : ∀ o, wb.frozen? ⟨w.heap.size, o, none⟩ = false := kept_fr3 ywaf (block_lt_of_cell ywa0) hbwb
  have ywbb : Below w.heap.size w wb := bstep0 ywab hbwb
  clear hbwb ywa0 ywa1 ywaf ywab ywal
  have ywbl : w.heap.size < wb.heap.size := block_lt_of_cell ywb0
  go_wp2_with fail
  refine (HR.out _ ywbb).mono ?_
  rintro e wc ⟨rfl, hbwc⟩
  have ywc0 : wc.cell? ⟨w.heap.size, 0, none⟩ = some (.int .i64 0) := kept1 ywb0 hbwc
  have ywc1 : wc.cell? ⟨w.heap.size, 1, none⟩ = some (.int .i64 0) := kept1 ywb1 hbwc
  have ywcf : ∀ o, wc.frozen? ⟨w.heap.size, o, none⟩ = false := kept_fr3 ywbf (block_lt_of_cell ywb0) hbwc
  have ywcb : Below w.heap.size w wc := bstep0 ywbb hbwc
  clear hbwc ywb0 ywb1 ywbf ywbb ywbl
  have ywcl : w.heap.size < wc.heap.size := block_lt_of_cell ywc0
  go_wp2_with fail
  refine (HP.out _ (below_alloc ywcb _)).mono ?_
  rintro e wd ⟨rfl, hbwd⟩
  have ywd0 : wd.cell? ⟨w.heap.size, 0, none⟩ = some (.int .i64 0) := kept1 (cell_alloc ywc0 _) hbwd
  have ywd1 : wd.cell? ⟨w.heap.size, 1, none⟩ = some (.int .i64 0) := kept1 (cell_alloc ywc1 _) hbwd
  have ywdf : ∀ o, wd.frozen? ⟨w.heap.size, o, none⟩ = false := fz_alloc3 ywcf ywcl hbwd
  have ywdb : Below w.heap.size w wd := bstep1 ywcb hbwd
  have rr0 : wd.cell? ⟨wc.heap.size, 0, none⟩ = some (.int .i64 n) := kept1 (by simp [go_sem]) hbwd
  have rr1 : wd.cell? ⟨wc.heap.size, 1, none⟩ = some (.int .i64 d) := kept1 (by simp [go_sem]) hbwd
  clear hbwd ywc0 ywc1 ywcf ywcb ywcl
  have ywdl : w.heap.size < wd.heap.size := block_lt_of_cell ywd0
  have zm : w.heap.size < wd.heap.size + 1 := by omega
  go_wp2
  refine bodyPost_ret (v := .tuple #[.agg #[.int .i64 n, .int .i64 d], .int .i64 0]) (by simp [results, Tryd.results69, go_sem, *]) rfl ?_
  exact ⟨rfl, (by repeat (first | with_reducible exact Below.refl _ _ | with_reducible assumption | refine below_drewN ?_ _ | refine Below.drew ?_ | refine Below.alloc ?_ (by first | (simp; done) | (simp; omega) | omega) _ | refine Below.setCell ?_ (by first | (simp; done) | (simp; omega) | omega) _ | refine Below.trans ?_ (Below.mono (by assumption) (by first | (simp; done) | (simp; omega) | omega))))⟩

set_option maxRecDepth 100000 in
set_option maxHeartbeats 2000000 in
theorem xparse_F_ee (s a b : ByteArray) (w : World) (HC : Hid (∀ W : World, Below w.heap.size w W → Calls Tryd.prog 108 #[.string s, .string { data := #[47] }] W fun e w' => e = .returned (.tuple #[.string a, .string b, .bool false]) ∧ Below W.heap.size W w')) (HL : Hid (∀ W : World, Below w.heap.size w W → Calls Tryd.prog 109 #[.string a] W fun e w' => (∃ (x : Int) (N : Nat), e = .returned (.tuple #[.int .i64 x, .iface 135 (.pointer (some ⟨N, 0, none⟩))])) ∧ Below W.heap.size W w')) (HR : Hid (∀ W : World, Below w.heap.size w W → Calls Tryd.prog 109 #[.string { data := #[49] }] W fun e w' => (∃ (x : Int) (N : Nat), e = .returned (.tuple #[.int .i64 x, .iface 135 (.pointer (some ⟨N, 0, none⟩))])) ∧ Below W.heap.size W w')) :
    Calls Tryd.prog 69 #[.string s] w fun e w' => e = .returned (.tuple #[.agg #[.int .i64 0, .int .i64 0], .int .i64 7]) ∧ Below w.heap.size w w' := by
  go_enter Tryd.func69, Tryd.ntmps69
  go_wp2_with fail
  refine (HC.out _ (below_alloc (Below.refl _ _) _)).mono ?_
  rintro e wa ⟨rfl, hbwa⟩
  have ywa0 : wa.cell? ⟨w.heap.size, 0, none⟩ = some (.int .i64 0) := kept1 (by simp [go_sem]) hbwa
  have ywa1 : wa.cell? ⟨w.heap.size, 1, none⟩ = some (.int .i64 0) := kept1 (by simp [go_sem]) hbwa
  have ywaf : ∀ o, wa.frozen? ⟨w.heap.size, o, none⟩ = false := kept_fr3 (fun o => by simp [go_sem]) (by simp) hbwa
  have ywab : Below w.heap.size w wa := bstep1 (Below.refl _ _) hbwa
  clear hbwa 
  have ywal : w.heap.size < wa.heap.size := block_lt_of_cell ywa0
  go_wp2_with fail
  refine (HL.out _ ywab).mono ?_
  rintro e wb ⟨⟨xwb, Nwb, rfl⟩, hbwb⟩
  have ywb0 : wb.cell? ⟨w.heap.size, 0, none⟩ = some (.int .i64 0) := kept1 ywa0 hbwb
  have ywb1 : wb.cell? ⟨w.heap.size, 1, none⟩ = some (.int .i64 0) := kept1 ywa1 hbwb
  have ywbf : ∀ o, wb.frozen? ⟨w.heap.size, o, none⟩ = false := kept_fr3 ywaf (block_lt_of_cell ywa0) hbwb
  have ywbb : Below w.heap.size w wb := bstep0 ywab hbwb
  clear hbwb ywa0 ywa1 ywaf ywab ywal
  have ywbl : w.heap.size < wb.heap.size := block_lt_of_cell ywb0
  go_wp2_with fail
  refine (HR.out _ ywbb).mono ?_
  rintro e wc ⟨⟨xwc, Nwc, rfl⟩, hbwc⟩
  have ywc0 : wc.cell? ⟨w.heap.size, 0, none⟩ = some (.int .i64 0) := kept1 ywb0 hbwc
  have ywc1 : wc.cell? ⟨w.heap.size, 1, none⟩ = some (.int .i64 0) := kept1 ywb1 hbwc
  have ywcf : ∀ o, wc.frozen? ⟨w.heap.size, o, none⟩ = false := kept_fr3 ywbf (block_lt_of_cell ywb0) hbwc
  have ywcb : Below w.heap.size w wc := bstep0 ywbb hbwc
  clear hbwc ywb0 ywb1 ywbf ywbb ywbl
  have ywcl : w.heap.size < wc.heap.size := block_lt_of_cell ywc0
  have zm : w.heap.size < wc.heap.size + 1 := by omega
  go_wp2
  refine bodyPost_ret (v := .tuple #[.agg #[.int .i64 0, .int .i64 0], .int .i64 7]) (by simp [results, Tryd.results69, go_sem, *]) rfl ?_
  exact ⟨rfl, (by repeat (first | with_reducible exact Below.refl _ _ | with_reducible assumption | refine below_drewN ?_ _ | refine Below.drew ?_ | refine Below.alloc ?_ (by first | (simp; done) | (simp; omega) | omega) _ | refine Below.setCell ?_ (by first | (simp; done) | (simp; omega) | omega) _ | refine Below.trans ?_ (Below.mono (by assumption) (by first | (simp; done) | (simp; omega) | omega))))⟩

set_option maxRecDepth 100000 in
set_option maxHeartbeats 2000000 in
theorem xparse_F_eo (s a b : ByteArray) (d : Int) (w : World) (HC : Hid (∀ W : World, Below w.heap.size w W → Calls Tryd.prog 108 #[.string s, .string { data := #[47] }] W fun e w' => e = .returned (.tuple #[.string a, .string b, .bool false]) ∧ Below W.heap.size W w')) (HL : Hid (∀ W : World, Below w.heap.size w W → Calls Tryd.prog 109 #[.string a] W fun e w' => (∃ (x : Int) (N : Nat), e = .returned (.tuple #[.int .i64 x, .iface 135 (.pointer (some ⟨N, 0, none⟩))])) ∧ Below W.heap.size W w')) (HR : Hid (∀ W : World, Below w.heap.size w W → Calls Tryd.prog 109 #[.string { data := #[49] }] W fun e w' => e = .returned (.tuple #[.int .i64 d, .nilIface]) ∧ Below W.heap.size W w')) :
    Calls Tryd.prog 69 #[.string s] w fun e w' => e = .returned (.tuple #[.agg #[.int .i64 0, .int .i64 0], .int .i64 7]) ∧ Below w.heap.size w w' := by
  go_enter Tryd.func69, Tryd.ntmps69
  go_wp2_with fail
  refine (HC.out _ (below_alloc (Below.refl _ _) _)).mono ?_
  rintro e wa ⟨rfl, hbwa⟩
  have ywa0 : wa.cell? ⟨w.heap.size, 0, none⟩ = some (.int .i64 0) := kept1 (by simp [go_sem]) hbwa
  have ywa1 : wa.cell? ⟨w.heap.size, 1, none⟩ = some (.int .i64 0) := kept1 (by simp [go_sem]) hbwa
  have ywaf : ∀ o, wa.frozen? ⟨w.heap.size, o, none⟩ = false := kept_fr3 (fun o => by simp [go_sem]) (by simp) hbwa
  have ywab : Below w.heap.size w wa := bstep1 (Below.refl _ _) hbwa
  clear hbwa 
  have ywal : w.heap.size < wa.heap.size := block_lt_of_cell ywa0
  go_wp2_with fail
  refine (HL.out _ ywab).mono ?_
  rintro e wb ⟨⟨xwb, Nwb, rfl⟩, hbwb⟩
  have ywb0 : wb.cell? ⟨w.heap.size, 0, none⟩ = some (.int .i64 0) := kept1 ywa0 hbwb
  have ywb1 : wb.cell? ⟨w.heap.size, 1, none⟩ = some (.int .i64 0) := kept1 ywa1 hbwb
  have ywbf : ∀ o, wb.frozen? ⟨w.heap.size, o, none⟩ = false := kept_fr3 ywaf (block_lt_of_cell ywa0) hbwb
  have ywbb : Below w.heap.size w wb := bstep0 ywab hbwb
  clear hbwb ywa0 ywa1 ywaf ywab ywal
  have ywbl : w.heap.size < wb.heap.size := block_lt_of_cell ywb0
  go_wp2_with fail
  refine (HR.out _ ywbb).mono ?_
  rintro e wc ⟨rfl, hbwc⟩
  have ywc0 : wc.cell? ⟨w.heap.size, 0, none⟩ = some (.int .i64 0) := kept1 ywb0 hbwc
  have ywc1 : wc.cell? ⟨w.heap.size, 1, none⟩ = some (.int .i64 0) := kept1 ywb1 hbwc
  have ywcf : ∀ o, wc.frozen? ⟨w.heap.size, o, none⟩ = false := kept_fr3 ywbf (block_lt_of_cell ywb0) hbwc
  have ywcb : Below w.heap.size w wc := bstep0 ywbb hbwc
  clear hbwc ywb0 ywb1 ywbf ywbb ywbl
  have ywcl : w.heap.size < wc.heap.size := block_lt_of_cell ywc0
  have zm : w.heap.size < wc.heap.size + 1 := by omega
  go_wp2
  refine bodyPost_ret (v := .tuple #[.agg #[.int .i64 0, .int .i64 0], .int .i64 7]) (by simp [results, Tryd.results69, go_sem, *]) rfl ?_
  exact ⟨rfl, (by repeat (first | with_reducible exact Below.refl _ _ | with_reducible assumption | refine below_drewN ?_ _ | refine Below.drew ?_ | refine Below.alloc ?_ (by first | (simp; done) | (simp; omega) | omega) _ | refine Below.setCell ?_ (by first | (simp; done) | (simp; omega) | omega) _ | refine Below.trans ?_ (Below.mono (by assumption) (by first | (simp; done) | (simp; omega) | omega))))⟩

set_option maxRecDepth 100000 in
set_option maxHeartbeats 2000000 in
theorem xparse_F_oe (s a b : ByteArray) (n : Int) (w : World) (HC : Hid (∀ W : World, Below w.heap.size w W → Calls Tryd.prog 108 #[.string s, .string { data := #[47] }] W fun e w' => e = .returned (.tuple #[.string a, .string b, .bool false]) ∧ Below W.heap.size W w')) (HL : Hid (∀ W : World, Below w.heap.size w W → Calls Tryd.prog 109 #[.string a] W fun e w' => e = .returned (.tuple #[.int .i64 n, .nilIface]) ∧ Below W.heap.size W w')) (HR : Hid (∀ W : World, Below w.heap.size w W → Calls Tryd.prog 109 #[.string { data := #[49] }] W fun e w' => (∃ (x : Int) (N : Nat), e = .returned (.tuple #[.int .i64 x, .iface 135 (.pointer (some ⟨N, 0, none⟩))])) ∧ Below W.heap.size W w')) :
    Calls Tryd.prog 69 #[.string s] w fun e w' => e = .returned (.tuple #[.agg #[.int .i64 0, .int .i64 0], .int .i64 7]) ∧ Below w.heap.size w w' := by
  go_enter Tryd.func69, Tryd.ntmps69
  go_wp2_with fail
  refine (HC.out _ (below_alloc (Below.refl _ _) _)).mono ?_
  rintro e wa ⟨rfl, hbwa⟩
  have ywa0 : wa.cell? ⟨w.heap.size, 0, none⟩ = some (.int .i64 0) := kept1 (by simp [go_sem]) hbwa
  have ywa1 : wa.cell? ⟨w.heap.size, 1, none⟩ = some (.int .i64 0) := kept1 (by simp [go_sem]) hbwa
  have ywaf : ∀ o, wa.frozen? ⟨w.heap.size, o, none⟩ = false := kept_fr3 (fun o => by simp [go_sem]) (by simp) hbwa
  have ywab : Below w.heap.size w wa := bstep1 (Below.refl _ _) hbwa
  clear hbwa 
  have ywal : w.heap.size < wa.heap.size := block_lt_of_cell ywa0
  go_wp2_with fail
  refine (HL.out _ ywab).mono ?_
  rintro e wb ⟨rfl, hbwb⟩
  have ywb0 : wb.cell? ⟨w.heap.size, 0, none⟩ = some (.int .i64 0) := kept1 ywa0 hbwb
  have ywb1 : wb.cell? ⟨w.heap.size, 1, none⟩ = some (.int .i64 0) := kept1 ywa1 hbwb
  have ywbf : ∀ o, wb.frozen? ⟨w.heap.size, o, none⟩ = false := kept_fr3 ywaf (block_lt_of_cell ywa0) hbwb
  have ywbb : Below w.heap.size w wb := bstep0 ywab hbwb
  clear hbwb ywa0 ywa1 ywaf ywab ywal
  have ywbl : w.heap.size < wb.heap.size := block_lt_of_cell ywb0
  go_wp2_with fail
  refine (HR.out _ ywbb).mono ?_
  rintro e wc ⟨⟨xwc, Nwc, rfl⟩, hbwc⟩
  have ywc0 : wc.cell? ⟨w.heap.size, 0, none⟩ = some (.int .i64 0) := kept1 ywb0 hbwc
  have ywc1 : wc.cell? ⟨w.heap.size, 1, none⟩ = some (.int .i64 0) := kept1 ywb1 hbwc
  have ywcf : ∀ o, wc.frozen? ⟨w.heap.size, o, none⟩ = false := kept_fr3 ywbf (block_lt_of_cell ywb0) hbwc
  have ywcb : Below w.heap.size w wc := bstep0 ywbb hbwc
  clear hbwc ywb0 ywb1 ywbf ywbb ywbl
  have ywcl : w.heap.size < wc.heap.size := block_lt_of_cell ywc0
  have zm : w.heap.size < wc.heap.size + 1 := by omega
  go_wp2
  refine bodyPost_ret (v := .tuple #[.agg #[.int .i64 0, .int .i64 0], .int .i64 7]) (by simp [results, Tryd.results69, go_sem, *]) rfl ?_
  exact ⟨rfl, (by repeat (first | with_reducible exact Below.refl _ _ | with_reducible assumption | refine below_drewN ?_ _ | refine Below.drew ?_ | refine Below.alloc ?_ (by first | (simp; done) | (simp; omega) | omega) _ | refine Below.setCell ?_ (by first | (simp; done) | (simp; omega) | omega) _ | refine Below.trans ?_ (Below.mono (by assumption) (by first | (simp; done) | (simp; omega) | omega))))⟩

set_option maxRecDepth 100000 in
set_option maxHeartbeats 2000000 in
theorem xparse_F_bad (s a b : ByteArray) (n : Int) (d : Int) (w : World) (HC : Hid (∀ W : World, Below w.heap.size w W → Calls Tryd.prog 108 #[.string s, .string { data := #[47] }] W fun e w' => e = .returned (.tuple #[.string a, .string b, .bool false]) ∧ Below W.heap.size W w')) (HL : Hid (∀ W : World, Below w.heap.size w W → Calls Tryd.prog 109 #[.string a] W fun e w' => e = .returned (.tuple #[.int .i64 n, .nilIface]) ∧ Below W.heap.size W w')) (HR : Hid (∀ W : World, Below w.heap.size w W → Calls Tryd.prog 109 #[.string { data := #[49] }] W fun e w' => e = .returned (.tuple #[.int .i64 d, .nilIface]) ∧ Below W.heap.size W w')) (HP : Hid (∀ W : World, Below w.heap.size w W → Calls Tryd.prog 68 #[.agg #[.int .i64 n, .int .i64 d]] W fun e w' => e = .returned (.tuple #[.string { data := #[] }, .int .i64 1]) ∧ Below W.heap.size W w')) :
    Calls Tryd.prog 69 #[.string s] w fun e w' => e = .returned (.tuple #[.agg #[.int .i64 0, .int .i64 0], .int .i64 7]) ∧ Below w.heap.size w w' := by
  go_enter Tryd.func69, Tryd.ntmps69
  go_wp2_with fail
  refine (HC.out _ (below_alloc (Below.refl _ _) _)).mono ?_
  rintro e wa ⟨rfl, hbwa⟩
  have ywa0 : wa.cell? ⟨w.heap.size, 0, none⟩ = some (.int .i64 0) := kept1 (by simp [go_sem]) hbwa
  have ywa1 : wa.cell? ⟨w.heap.size, 1, none⟩ = some (.int .i64 0) := kept1 (by simp [go_sem]) hbwa
  have ywaf : ∀ o, wa.frozen? ⟨w.heap.size, o, none⟩ = false := kept_fr3 (fun o => by simp [go_sem]) (by simp) hbwa
  have ywab : Below w.heap.size w wa := bstep1 (Below.refl _ _) hbwa
  clear hbwa 
  have ywal : w.heap.size < wa.heap.size := block_lt_of_cell ywa0
  go_wp2_with fail
  refine (HL.out _ ywab).mono ?_
  rintro e wb ⟨rfl, hbwb⟩
  have ywb0 : wb.cell? ⟨w.heap.size, 0, none⟩ = some (.int .i64 0) := kept1 ywa0 hbwb
  have ywb1 : wb.cell? ⟨w.heap.size, 1, none⟩ = some (.int .i64 0) := kept1 ywa1 hbwb
  have ywbf : ∀ o, wb.frozen? ⟨w.heap.size, o, none⟩ = false := kept_fr3 ywaf (block_lt_of_cell ywa0) hbwb
  have ywbb : Below w.heap.size w wb := bstep0 ywab hbwb
  clear hbwb ywa0 ywa1 ywaf ywab ywal
  have ywbl : w.heap.size < wb.heap.size := block_lt_of_cell ywb0
  go_wp2_with fail
  refine (HR.out _ ywbb).mono ?_
  rintro e wc ⟨rfl, hbwc⟩
  have ywc0 : wc.cell? ⟨w.heap.size, 0, none⟩ = some (.int .i64 0) := kept1 ywb0 hbwc
  have ywc1 : wc.cell? ⟨w.heap.size, 1, none⟩ = some (.int .i64 0) := kept1 ywb1 hbwc
  have ywcf : ∀ o, wc.frozen? ⟨w.heap.size, o, none⟩ = false := kept_fr3 ywbf (block_lt_of_cell ywb0) hbwc
  have ywcb : Below w.heap.size w wc := bstep0 ywbb hbwc
  clear hbwc ywb0 ywb1 ywbf ywbb ywbl
  have ywcl : w.heap.size < wc.heap.size := block_lt_of_cell ywc0
  go_wp2_with fail
  refine (HP.out _ (below_alloc ywcb _)).mono ?_
  rintro e wd ⟨rfl, hbwd⟩
  have ywd0 : wd.cell? ⟨w.heap.size, 0, none⟩ = some (.int .i64 0) := kept1 (cell_alloc ywc0 _) hbwd
  have ywd1 : wd.cell? ⟨w.heap.size, 1, none⟩ = some (.int .i64 0) := kept1 (cell_alloc ywc1 _) hbwd
  have ywdf : ∀ o, wd.frozen? ⟨w.heap.size, o, none⟩ = false := fz_alloc3 ywcf ywcl hbwd
  have ywdb : Below w.heap.size w wd := bstep1 ywcb hbwd
  have rr0 : wd.cell? ⟨wc.heap.size, 0, none⟩ = some (.int .i64 n) := kept1 (by simp [go_sem]) hbwd
  have rr1 : wd.cell? ⟨wc.heap.size, 1, none⟩ = some (.int .i64 d) := kept1 (by simp [go_sem]) hbwd
  clear hbwd ywc0 ywc1 ywcf ywcb ywcl
  have ywdl : w.heap.size < wd.heap.size := block_lt_of_cell ywd0
  have zm : w.heap.size < wd.heap.size + 1 := by omega
  go_wp2
  refine bodyPost_ret (v := .tuple #[.agg #[.int .i64 0, .int .i64 0], .int .i64 7]) (by simp [results, Tryd.results69, go_sem, *]) rfl ?_
  exact ⟨rfl, (by repeat (first | with_reducible exact Below.refl _ _ | with_reducible assumption | refine below_drewN ?_ _ | refine Below.drew ?_ | refine Below.alloc ?_ (by first | (simp; done) | (simp; omega) | omega) _ | refine Below.setCell ?_ (by first | (simp; done) | (simp; omega) | omega) _ | refine Below.trans ?_ (Below.mono (by assumption) (by first | (simp; done) | (simp; omega) | omega))))⟩

set_option maxRecDepth 100000 in
set_option maxHeartbeats 2000000 in
theorem xparse_F_ne (s a b : ByteArray) (n : Int) (d : Int) (T : ByteArray) (hnb : (T.toList == s.toList) = false) (w : World) (HC : Hid (∀ W : World, Below w.heap.size w W → Calls Tryd.prog 108 #[.string s, .string { data := #[47] }] W fun e w' => e = .returned (.tuple #[.string a, .string b, .bool false]) ∧ Below W.heap.size W w')) (HL : Hid (∀ W : World, Below w.heap.size w W → Calls Tryd.prog 109 #[.string a] W fun e w' => e = .returned (.tuple #[.int .i64 n, .nilIface]) ∧ Below W.heap.size W w')) (HR : Hid (∀ W : World, Below w.heap.size w W → Calls Tryd.prog 109 #[.string { data := #[49] }] W fun e w' => e = .returned (.tuple #[.int .i64 d, .nilIface]) ∧ Below W.heap.size W w')) (HP : Hid (∀ W : World, Below w.heap.size w W → Calls Tryd.prog 68 #[.agg #[.int .i64 n, .int .i64 d]] W fun e w' => e = .returned (.tuple #[.string T, .int .i64 0]) ∧ Below W.heap.size W w')) :
    Calls Tryd.prog 69 #[.string s] w fun e w' => e = .returned (.tuple #[.agg #[.int .i64 0, .int .i64 0], .int .i64 7]) ∧ Below w.heap.size w w' := by
  go_enter Tryd.func69, Tryd.ntmps69
  go_wp2_with fail
  refine (HC.out _ (below_alloc (Below.refl _ _) _)).mono ?_
  rintro e wa ⟨rfl, hbwa⟩
  have ywa0 : wa.cell? ⟨w.heap.size, 0, none⟩ = some (.int .i64 0) := kept1 (by simp [go_sem]) hbwa
  have ywa1 : wa.cell? ⟨w.heap.size, 1, none⟩ = some (.int .i64 0) := kept1 (by simp [go_sem]) hbwa
  have ywaf : ∀ o, wa.frozen? ⟨w.heap.size, o, none⟩ = false := kept_fr3 (fun o => by simp [go_sem]) (by simp) hbwa
  have ywab : Below w.heap.size w wa := bstep1 (Below.refl _ _) hbwa
  clear hbwa 
  have ywal : w.heap.size < wa.heap.size := block_lt_of_cell ywa0
  go_wp2_with fail
  refine (HL.out _ ywab).mono ?_
  rintro e wb ⟨rfl, hbwb⟩
  have ywb0 : wb.cell? ⟨w.heap.size, 0, none⟩ = some (.int .i64 0) := kept1 ywa0 hbwb
  have ywb1 : wb.cell? ⟨w.heap.size, 1, none⟩ = some (.int .i64 0) := kept1 ywa1 hbwb
  have ywbf : ∀ o, wb.frozen? ⟨w.heap.size, o, none⟩ = false := kept_fr3 ywaf (block_lt_of_cell ywa0) hbwb
  have ywbb : Below w.heap.size w wb := bstep0 ywab hbwb
  clear hbwb ywa0 ywa1 ywaf ywab ywal
  have ywbl : w.heap.size < wb.heap.size := block_lt_of_cell ywb0
  go_wp2_with fail
  refine (HR.out _ ywbb).mono ?_
  rintro e wc ⟨rfl, hbwc⟩
  have ywc0 : wc.cell? ⟨w.heap.size, 0, none⟩ = some (.int .i64 0) := kept1 ywb0 hbwc
  have ywc1 : wc.cell? ⟨w.heap.size, 1, none⟩ = some (.int .i64 0) := kept1 ywb1 hbwc
  have ywcf : ∀ o, wc.frozen? ⟨w.heap.size, o, none⟩ = false := kept_fr3 ywbf (block_lt_of_cell ywb0) hbwc
  have ywcb : Below w.heap.size w wc := bstep0 ywbb hbwc
  clear hbwc ywb0 ywb1 ywbf ywbb ywbl
  have ywcl : w.heap.size < wc.heap.size := block_lt_of_cell ywc0
  go_wp2_with fail
  refine (HP.out _ (below_alloc ywcb _)).mono ?_
  rintro e wd ⟨rfl, hbwd⟩
  have ywd0 : wd.cell? ⟨w.heap.size, 0, none⟩ = some (.int .i64 0) := kept1 (cell_alloc ywc0 _) hbwd
  have ywd1 : wd.cell? ⟨w.heap.size, 1, none⟩ = some (.int .i64 0) := kept1 (cell_alloc ywc1 _) hbwd
  have ywdf : ∀ o, wd.frozen? ⟨w.heap.size, o, none⟩ = false := fz_alloc3 ywcf ywcl hbwd
  have ywdb : Below w.heap.size w wd := bstep1 ywcb hbwd
  have rr0 : wd.cell? ⟨wc.heap.size, 0, none⟩ = some (.int .i64 n) := kept1 (by simp [go_sem]) hbwd
  have rr1 : wd.cell? ⟨wc.heap.size, 1, none⟩ = some (.int .i64 d) := kept1 (by simp [go_sem]) hbwd
  clear hbwd ywc0 ywc1 ywcf ywcb ywcl
  have ywdl : w.heap.size < wd.heap.size := block_lt_of_cell ywd0
  have zm : w.heap.size < wd.heap.size + 1 := by omega
  go_wp2
  refine bodyPost_ret (v := .tuple #[.agg #[.int .i64 0, .int .i64 0], .int .i64 7]) (by simp [results, Tryd.results69, go_sem, *]) rfl ?_
  exact ⟨rfl, (by repeat (first | with_reducible exact Below.refl _ _ | with_reducible assumption | refine below_drewN ?_ _ | refine Below.drew ?_ | refine Below.alloc ?_ (by first | (simp; done) | (simp; omega) | omega) _ | refine Below.setCell ?_ (by first | (simp; done) | (simp; omega) | omega) _ | refine Below.trans ?_ (Below.mono (by assumption) (by first | (simp; done) | (simp; omega) | omega))))⟩

set_option maxRecDepth 100000 in
set_option maxHeartbeats 2000000 in
theorem xparse_F_eq (s a b : ByteArray) (n : Int) (d : Int) (w : World) (HC : Hid (∀ W : World, Below w.heap.size w W → Calls Tryd.prog 108 #[.string s, .string { data := #[47] }] W fun e w' => e = .returned (.tuple #[.string a, .string b, .bool false]) ∧ Below W.heap.size W w')) (HL : Hid (∀ W : World, Below w.heap.size w W → Calls Tryd.prog 109 #[.string a] W fun e w' => e = .returned (.tuple #[.int .i64 n, .nilIface]) ∧ Below W.heap.size W w')) (HR : Hid (∀ W : World, Below w.heap.size w W → Calls Tryd.prog 109 #[.string { data := #[49] }] W fun e w' => e = .returned (.tuple #[.int .i64 d, .nilIface]) ∧ Below W.heap.size W w')) (HP : Hid (∀ W : World, Below w.heap.size w W → Calls Tryd.prog 68 #[.agg #[.int .i64 n, .int .i64 d]] W fun e w' => e = .returned (.tuple #[.string s, .int .i64 0]) ∧ Below W.heap.size W w')) :
    Calls Tryd.prog 69 #[.string s] w fun e w' => e = .returned (.tuple #[.agg #[.int .i64 n, .int .i64 d], .int .i64 0]) ∧ Below w.heap.size w w' := by
  go_enter Tryd.func69, Tryd.ntmps69
  go_wp2_with fail
  refine (HC.out _ (below_alloc (Below.refl _ _) _)).mono ?_
  rintro e wa ⟨rfl, hbwa⟩
  have ywa0 : wa.cell? ⟨w.heap.size, 0, none⟩ = some (.int .i64 0) := kept1 (by simp [go_sem]) hbwa
  have ywa1 : wa.cell? ⟨w.heap.size, 1, none⟩ = some (.int .i64 0) := kept1 (by simp [go_sem]) hbwa
  have ywaf : ∀ o, wa.frozen? ⟨w.heap.size, o, none⟩ = false := kept_fr3 (fun o => by simp [go_sem]) (by simp) hbwa
  have ywab : Below w.heap.size w wa := bstep1 (Below.refl _ _) hbwa
  clear hbwa 
  have ywal : w.heap.size < wa.heap.size := block_lt_of_cell ywa0
  go_wp2_with fail
  refine (HL.out _ ywab).mono ?_
  rintro e wb ⟨rfl, hbwb⟩
  have ywb0 : wb.cell? ⟨w.heap.size, 0, none⟩ = some (.int .i64 0) := kept1 ywa0 hbwb
  have ywb1 : wb.cell? ⟨w.heap.size, 1, none⟩ = some (.int .i64 0) := kept1 ywa1 hbwb
  have ywbf : ∀ o, wb.frozen? ⟨w.heap.size, o, none⟩ = false := kept_fr3 ywaf (block_lt_of_cell ywa0) hbwb
  have ywbb : Below w.heap.size w wb := bstep0 ywab hbwb
  clear hbwb ywa0 ywa1 ywaf ywab ywal
  have ywbl : w.heap.size < wb.heap.size := block_lt_of_cell ywb0
  go_wp2_with fail
  refine (HR.out _ ywbb).mono ?_
  rintro e wc ⟨rfl, hbwc⟩
  have ywc0 : wc.cell? ⟨w.heap.size, 0, none⟩ = some (.int .i64 0) := kept1 ywb0 hbwc
  have ywc1 : wc.cell? ⟨w.heap.size, 1, none⟩ = some (.int .i64 0) := kept1 ywb1 hbwc
  have ywcf : ∀ o, wc.frozen? ⟨w.heap.size, o, none⟩ = false := kept_fr3 ywbf (block_lt_of_cell ywb0) hbwc
  have ywcb : Below w.heap.size w wc := bstep0 ywbb hbwc
  clear hbwc ywb0 ywb1 ywbf ywbb ywbl
  have ywcl : w.heap.size < wc.heap.size := block_lt_of_cell ywc0
  go_wp2_with fail
  refine (HP.out _ (below_alloc ywcb _)).mono ?_
  rintro e wd ⟨rfl, hbwd⟩
  have ywd0 : wd.cell? ⟨w.heap.size, 0, none⟩ = some (.int .i64 0) := kept1 (cell_alloc ywc0 _) hbwd
  have ywd1 : wd.cell? ⟨w.heap.size, 1, none⟩ = some (.int .i64 0) := kept1 (cell_alloc ywc1 _) hbwd
  have ywdf : ∀ o, wd.frozen? ⟨w.heap.size, o, none⟩ = false := fz_alloc3 ywcf ywcl hbwd
  have ywdb : Below w.heap.size w wd := bstep1 ywcb hbwd
  have rr0 : wd.cell? ⟨wc.heap.size, 0, none⟩ = some (.int .i64 n) := kept1 (by simp [go_sem]) hbwd
  have rr1 : wd.cell? ⟨wc.heap.size, 1, none⟩ = some (.int .i64 d) := kept1 (by simp [go_sem]) hbwd
  clear hbwd ywc0 ywc1 ywcf ywcb ywcl
  have ywdl : w.heap.size < wd.heap.size := block_lt_of_cell ywd0
  have zm : w.heap.size < wd.heap.size + 1 := by omega
  go_wp2
  refine bodyPost_ret (v := .tuple #[.agg #[.int .i64 n, .int .i64 d], .int .i64 0]) (by simp [results, Tryd.results69, go_sem, *]) rfl ?_
  exact ⟨rfl, (by repeat (first | with_reducible exact Below.refl _ _ | with_reducible assumption | refine below_drewN ?_ _ | refine Below.drew ?_ | refine Below.alloc ?_ (by first | (simp; done) | (simp; omega) | omega) _ | refine Below.setCell ?_ (by first | (simp; done) | (simp; omega) | omega) _ | refine Below.trans ?_ (Below.mono (by assumption) (by first | (simp; done) | (simp; omega) | omega))))⟩

end Go.Proofs.YtffabmojbelaaaaDoor
