/- What the claims of layer 3 share, part 29: several texts one behind the other. -/
import Derived.Test.YtidcedilfhmllaaDoorZ28
import Derived.Test.YtidcedilfhmllaaDoorZ20
import Derived.Test.YtidcedilfhmllaaDoorZ22
import Derived.Test.YtidcedilfhmllaaDoorZ26
import Derived.Test.YtidcedilfhmllaaDoorZ11
import Derived.Test.YtidcedilfhmllaaDoorZ07
import Derived.Test.YtidcedilfhmllaaDoorZ13
set_option linter.unusedSimpArgs false
set_option linter.unusedVariables false
/- The laws' examples of layer 3: the shop m; sanity. -/
namespace Go.Proofs.YtidcedilfhmllaaDoor
open Go.RowKit

set_option maxRecDepth 100000 in
set_option maxHeartbeats 4000000 in
theorem twist_any (w : World) :
    Calls Tryd.prog 36 #[] w fun e w' => ∃ y, e = .returned (.agg #[.int .i64 2, .int .i64 3, .slice (some y) 3 3]) ∧ Hid (WksAt w' (some y) Pl.exL) ∧ Below w.heap.size w w' := by
  go_enter Tryd.func36, Tryd.ntmps36
  go_wp2
  have z0 : ((w.alloc (Obj.cells #[.int .i64 2, .int .i64 3, .slice (some ⟨w.heap.size + 1, 0, none⟩) 3 3] 34)).alloc (Obj.cells #[.int .i64 0, .int .i64 1, .int .i64 0, .int .i64 1, .int .i64 2, .int .i64 0, .int .i64 2, .int .i64 0, .int .i64 4] 61)).cell? ⟨w.heap.size, 0, none⟩ = some (.int .i64 2) := by simp [go_sem]
  have z1 : ((w.alloc (Obj.cells #[.int .i64 2, .int .i64 3, .slice (some ⟨w.heap.size + 1, 0, none⟩) 3 3] 34)).alloc (Obj.cells #[.int .i64 0, .int .i64 1, .int .i64 0, .int .i64 1, .int .i64 2, .int .i64 0, .int .i64 2, .int .i64 0, .int .i64 4] 61)).cell? ⟨w.heap.size, 1, none⟩ = some (.int .i64 3) := by simp [go_sem]
  have z2 : ((w.alloc (Obj.cells #[.int .i64 2, .int .i64 3, .slice (some ⟨w.heap.size + 1, 0, none⟩) 3 3] 34)).alloc (Obj.cells #[.int .i64 0, .int .i64 1, .int .i64 0, .int .i64 1, .int .i64 2, .int .i64 0, .int .i64 2, .int .i64 0, .int .i64 4] 61)).cell? ⟨w.heap.size, 2, none⟩ = some (.slice (some ⟨w.heap.size + 1, 0, none⟩) 3 3) := by simp [go_sem]
  have e0 : ((w.alloc (Obj.cells #[.int .i64 2, .int .i64 3, .slice (some ⟨w.heap.size + 1, 0, none⟩) 3 3] 34)).alloc (Obj.cells #[.int .i64 0, .int .i64 1, .int .i64 0, .int .i64 1, .int .i64 2, .int .i64 0, .int .i64 2, .int .i64 0, .int .i64 4] 61)).cell? ⟨w.heap.size + 1, 0, none⟩ = some (.int .i64 0) := by simp [go_sem]
  have e1 : ((w.alloc (Obj.cells #[.int .i64 2, .int .i64 3, .slice (some ⟨w.heap.size + 1, 0, none⟩) 3 3] 34)).alloc (Obj.cells #[.int .i64 0, .int .i64 1, .int .i64 0, .int .i64 1, .int .i64 2, .int .i64 0, .int .i64 2, .int .i64 0, .int .i64 4] 61)).cell? ⟨w.heap.size + 1, 1, none⟩ = some (.int .i64 1) := by simp [go_sem]
  have e2 : ((w.alloc (Obj.cells #[.int .i64 2, .int .i64 3, .slice (some ⟨w.heap.size + 1, 0, none⟩) 3 3] 34)).alloc (Obj.cells #[.int .i64 0, .int .i64 1, .int .i64 0, .int .i64 1, .int .i64 2, .int .i64 0, .int .i64 2, .int .i64 0, .int .i64 4] 61)).cell? ⟨w.heap.size + 1, 2, none⟩ = some (.int .i64 0) := by simp [go_sem]
  have e3 : ((w.alloc (Obj.cells #[.int .i64 2, .int .i64 3, .slice (some ⟨w.heap.size + 1, 0, none⟩) 3 3] 34)).alloc (Obj.cells #[.int .i64 0, .int .i64 1, .int .i64 0, .int .i64 1, .int .i64 2, .int .i64 0, .int .i64 2, .int .i64 0, .int .i64 4] 61)).cell? ⟨w.heap.size + 1, 3, none⟩ = some (.int .i64 1) := by simp [go_sem]
  have e4 : ((w.alloc (Obj.cells #[.int .i64 2, .int .i64 3, .slice (some ⟨w.heap.size + 1, 0, none⟩) 3 3] 34)).alloc (Obj.cells #[.int .i64 0, .int .i64 1, .int .i64 0, .int .i64 1, .int .i64 2, .int .i64 0, .int .i64 2, .int .i64 0, .int .i64 4] 61)).cell? ⟨w.heap.size + 1, 4, none⟩ = some (.int .i64 2) := by simp [go_sem]
  have e5 : ((w.alloc (Obj.cells #[.int .i64 2, .int .i64 3, .slice (some ⟨w.heap.size + 1, 0, none⟩) 3 3] 34)).alloc (Obj.cells #[.int .i64 0, .int .i64 1, .int .i64 0, .int .i64 1, .int .i64 2, .int .i64 0, .int .i64 2, .int .i64 0, .int .i64 4] 61)).cell? ⟨w.heap.size + 1, 5, none⟩ = some (.int .i64 0) := by simp [go_sem]
  have e6 : ((w.alloc (Obj.cells #[.int .i64 2, .int .i64 3, .slice (some ⟨w.heap.size + 1, 0, none⟩) 3 3] 34)).alloc (Obj.cells #[.int .i64 0, .int .i64 1, .int .i64 0, .int .i64 1, .int .i64 2, .int .i64 0, .int .i64 2, .int .i64 0, .int .i64 4] 61)).cell? ⟨w.heap.size + 1, 6, none⟩ = some (.int .i64 2) := by simp [go_sem]
  have e7 : ((w.alloc (Obj.cells #[.int .i64 2, .int .i64 3, .slice (some ⟨w.heap.size + 1, 0, none⟩) 3 3] 34)).alloc (Obj.cells #[.int .i64 0, .int .i64 1, .int .i64 0, .int .i64 1, .int .i64 2, .int .i64 0, .int .i64 2, .int .i64 0, .int .i64 4] 61)).cell? ⟨w.heap.size + 1, 7, none⟩ = some (.int .i64 0) := by simp [go_sem]
  have e8 : ((w.alloc (Obj.cells #[.int .i64 2, .int .i64 3, .slice (some ⟨w.heap.size + 1, 0, none⟩) 3 3] 34)).alloc (Obj.cells #[.int .i64 0, .int .i64 1, .int .i64 0, .int .i64 1, .int .i64 2, .int .i64 0, .int .i64 2, .int .i64 0, .int .i64 4] 61)).cell? ⟨w.heap.size + 1, 8, none⟩ = some (.int .i64 4) := by simp [go_sem]
  have hb : Below w.heap.size w ((w.alloc (Obj.cells #[.int .i64 2, .int .i64 3, .slice (some ⟨w.heap.size + 1, 0, none⟩) 3 3] 34)).alloc (Obj.cells #[.int .i64 0, .int .i64 1, .int .i64 0, .int .i64 1, .int .i64 2, .int .i64 0, .int .i64 2, .int .i64 0, .int .i64 4] 61)) := below_alloc (below_alloc (Below.refl _ _) _) _
  generalize ((w.alloc (Obj.cells #[.int .i64 2, .int .i64 3, .slice (some ⟨w.heap.size + 1, 0, none⟩) 3 3] 34)).alloc (Obj.cells #[.int .i64 0, .int .i64 1, .int .i64 0, .int .i64 1, .int .i64 2, .int .i64 0, .int .i64 2, .int .i64 0, .int .i64 4] 61)) = V at *
  refine bodyPost_ret (v := .agg #[.int .i64 2, .int .i64 3, .slice (some ⟨w.heap.size + 1, 0, none⟩) 3 3]) (by simp [results, Tryd.results36, go_sem, z0, z1, z2]) rfl ?_
  refine ⟨_, rfl, Lib.hid (fun k hk => ?_), hb⟩
  have hk3 : k < 3 := hk
  have ea : ∀ j, (⟨w.heap.size + 1, 0, none⟩ : Addr).add j = ⟨w.heap.size + 1, j, none⟩ := fun j => by unfold Addr.add; split <;> simp_all
  refine ⟨_, rfl, ?_⟩
  rw [ea]
  match k, hk3 with
  | 0, _ => exact ⟨e0, e1, e2⟩
  | 1, _ => exact ⟨e3, e4, e5⟩
  | 2, _ => exact ⟨e6, e7, e8⟩

theorem ns_of_row {W : World} {b N : Nat} {f : Nat → Int} (h : RowF W b N f) (l : List Int) (hl : l.length = N) (hf : ∀ k, k < N → f k = l.getD k 0) : NsAt W (some ⟨b, 0, none⟩) l := fun k hk => by
  have ea : (⟨b, 0, none⟩ : Addr).add k = ⟨b, k, none⟩ := by unfold Addr.add; split <;> simp_all
  refine ⟨_, rfl, ?_⟩
  rw [ea, (h k (by omega)).1, hf k (by omega)]
theorem ns_lit (W : World) (l : List Int) : NsAt (W.alloc (.cells (l.map (Value.int .i64)).toArray 3)) (some ⟨W.heap.size, 0, none⟩) l := fun k hk => by
  have ea : (⟨W.heap.size, 0, none⟩ : Addr).add k = ⟨W.heap.size, k, none⟩ := by unfold Addr.add; split <;> simp_all
  refine ⟨_, rfl, ?_⟩
  have h := World.alloc_heap_new W (.cells (l.map (Value.int .i64)).toArray 3)
  rw [ea]
  unfold World.cell?
  rw [h]
  simp [List.getD, List.getElem?_eq_getElem hk]

theorem sgs_lit (W : World) : SgsAt (W.alloc (Obj.cells #[.int .i64 0, .bool false, .int .i64 4, .bool true] 70)) (some ⟨W.heap.size, 0, none⟩) [(0, false), (4, true)] := fun k hk => by
  have ea : ∀ j, (⟨W.heap.size, 0, none⟩ : Addr).add j = ⟨W.heap.size, j, none⟩ := fun j => by unfold Addr.add; split <;> simp_all
  have h := World.alloc_heap_new W (Obj.cells #[.int .i64 0, .bool false, .int .i64 4, .bool true] 70)
  refine ⟨_, rfl, ?_⟩
  rw [ea]
  unfold World.cell?
  simp only
  rw [h]
  match k, hk with
  | 0, _ => exact ⟨rfl, rfl⟩
  | 1, _ => exact ⟨rfl, rfl⟩
theorem ns_of_exP {W : World} {b : Nat} (h : W.rowIs b 3 4 (fun c => .int .i64 (Pl.exP 1 c))) : NsAt W (some ⟨b, 0, none⟩) [-5, 5, -7, 7] := fun k hk => by
  have ea : (⟨b, 0, none⟩ : Addr).add k = ⟨b, k, none⟩ := by unfold Addr.add; split <;> simp_all
  refine ⟨_, rfl, ?_⟩
  have hk4 : k < 4 := hk
  rw [ea, h.cell (i := k) hk4]
  obtain ⟨h0, h1, h2, h3⟩ := Pl.exL_shape
  match k, hk4 with
  | 0, _ => rw [h0]; rfl
  | 1, _ => rw [h1]; rfl
  | 2, _ => rw [h2]; rfl
  | 3, _ => rw [h3]; rfl

set_option maxRecDepth 100000 in
set_option maxHeartbeats 16000000 in
theorem sanityP_any (w : World) (hT : Hid (Tab w.heap.size w)) :
    Calls Tryd.prog 9 #[] w fun e w' => e = .returned (.bool true) ∧ Below w.heap.size w w' := by
  have VL := Pl.vs_of (s := 2) (m := 3) (L := Pl.exL) (p := 0) Pl.exL_cpl
  have VM := Pl.vs_of (s := 2) (m := 3) (L := Pl.exM) (p := 0) Pl.exM_cpl
  have H1 := Lib.hid (fun (W : World) (a : Option Addr) (c : Nat) (h : Hid (WksAt W a Pl.exL)) => (show Calls Tryd.prog 32 #[.agg #[.int .i64 2, .int .i64 3, .slice a 3 c], .int .i64 0] W fun e w' => ∃ v, e = .returned (.tuple #[v, .int .i64 0]) ∧ Hid (SgO W w' v [(0, false), (4, true)]) from by
    have h9 := pSigns_ok 2 3 a 3 c Pl.exL rfl 0 VL W h
    rw [Pl.exL_signs] at h9
    exact h9))
  have H2 := Lib.hid (fun (W : World) (a : Option Addr) (c : Nat) (h : Hid (WksAt W a Pl.exL)) => (show Calls Tryd.prog 16 #[.agg #[.int .i64 2, .int .i64 3, .slice a 3 c], .int .i64 0] W fun e w' => ∃ lb wb cl cw, e = .returned (.tuple #[.slice (some ⟨lb, 0, none⟩) 4 cl, .slice (some ⟨wb, 0, none⟩) 4 cw, .int .i64 0]) ∧ Hid (NsAt w' (some ⟨lb, 0, none⟩) [0, 0, 2, 2]) ∧ Hid (NsAt w' (some ⟨wb, 0, none⟩) [1, -1, 1, -1]) ∧ Below W.heap.size W w' from by
    refine (pClasses_ok 2 3 a 3 c Pl.exL rfl 0 VL W h).mono ?_
    rintro e w' ⟨lb, wb, cl, cw, rfl, h1, h2, hb⟩
    rw [Pl.exL_signs, Pl.exL_cls] at h1 h2
    exact ⟨lb, wb, cl, cw, rfl, Lib.hid (ns_of_row h1.out _ rfl (by decide +kernel)), Lib.hid (ns_of_row h2.out _ rfl (by decide +kernel)), hb⟩))
  have H3 := Lib.hid (fun (W : World) (a : Option Addr) (c : Nat) (h : Hid (WksAt W a Pl.exL)) => (show Calls Tryd.prog 17 #[.agg #[.int .i64 2, .int .i64 3, .slice a 3 c], .int .i64 0] W fun e w' => e = .returned (.tuple #[.int .i64 2, .int .i64 0]) ∧ Below W.heap.size W w' from by
    have h9 := pFreedom_ok 2 3 a 3 c Pl.exL rfl 0 VL W h
    rw [Pl.exL_frd] at h9
    exact h9))
  have H4 := Lib.hid (fun (W : World) (a : Option Addr) (c : Nat) (x : Option Addr) (ch : Nat) (h : Hid (WksAt W a Pl.exL)) (hH : Hid (NsAt W x [5, 7])) => (show Calls Tryd.prog 23 #[.agg #[.int .i64 2, .int .i64 3, .slice a 3 c], .int .i64 0, .slice x 2 ch] W (ShPost W 4 3 Pl.exP) from
    pShape_ok 2 3 a 3 c Pl.exL rfl 0 VL x ch [5, 7] 2 (Lib.hid rfl) (Lib.hid Pl.exL_evs) (Lib.hid (by decide)) W h hH))
  have H5 := Lib.hid (fun (W : World) (a : Option Addr) (c : Nat) (ha : Hid (a = none → c = 0)) (h : Hid (WksAt W a Pl.exL)) => (show Calls Tryd.prog 31 #[.agg #[.int .i64 2, .int .i64 3, .slice a 3 c], .agg #[.int .i64 0, .int .i64 1, .int .i64 1]] W fun e w' => ∃ a' c', e = .returned (.tuple #[.agg #[.int .i64 2, .int .i64 3, .slice a' 4 c'], .int .i64 0]) ∧ Hid (WksAt w' a' Pl.exM) ∧ Hid (a' = none → c' = 0) ∧ Below W.heap.size W w' from
    pWith_ok 2 3 a 3 c ha Pl.exL rfl (by omega) ⟨0, 1, 1⟩ Pl.exL_chk Pl.exM_chk W h))
  have H6 := Lib.hid (fun (W : World) (a : Option Addr) (c : Nat) (h : Hid (WksAt W a Pl.exM)) => (show Calls Tryd.prog 18 #[.agg #[.int .i64 2, .int .i64 3, .slice a 4 c], .int .i64 0] W fun e w' => e = .returned (.tuple #[.bool true, .int .i64 0]) ∧ Below W.heap.size W w' from by
    have h9 := pFlat_ok 2 3 a 4 c Pl.exM rfl 0 VM W h
    rw [Pl.exM_frd] at h9
    exact h9))
  have H7 := Lib.hid (fun (W : World) => (show Calls Tryd.prog 37 #[.int .i64 4, .int .i64 7, .int .i64 1] W fun e w' => e = .returned (.tuple #[.int .i64 11, .int .i64 0]) ∧ Below W.heap.size W w' from
    pTurn_ok 4 7 1 (by omega) (by omega) (by omega) (by omega) W))
  have H8 := Lib.hid (fun (W : World) => (show Calls Tryd.prog 29 #[.int .i64 1, .int .i64 4] W fun e w' => e = .returned (.tuple #[.int .i64 5, .int .i64 0]) ∧ w' = W from
    pComposeP_ok 1 4 (by omega) (by omega) W))
  have H9 := Lib.hid (fun (W : World) (a : Option Addr) (c : Nat) (h : Hid (WksAt W a Pl.exM)) => (show Calls Tryd.prog 38 #[.agg #[.int .i64 2, .int .i64 3, .slice a 4 c], .int .i64 0] W (PvPost W Pl.exW) from
    pProve_ok 2 3 a 4 c Pl.exM rfl 0 VM Pl.exM_frd W h))
  have HA := Lib.hid (fun (W : World) (a : Option Addr) (c : Nat) (h : Hid (WksAt W a Pl.exL)) (hT : Hid (Tab W.heap.size W)) => (show Calls Tryd.prog 39 #[.agg #[.int .i64 2, .int .i64 3, .slice a 3 c]] W fun e w' => e = .returned (.tuple #[.string ⟨#[115, 104, 111, 112, 32, 50, 32, 51, 10, 119, 111, 114, 107, 32, 48, 32, 49, 32, 48, 10, 119, 111, 114, 107, 32, 49, 32, 50, 32, 48, 10, 119, 111, 114, 107, 32, 50, 32, 48, 32, 52, 10]⟩, .int .i64 0]) ∧ Below W.heap.size W w' from by
    have h9 := pPrint_ok 2 3 a 3 c Pl.exL (Lib.hid rfl) (by omega) (Lib.hid ⟨by unfold Tx.R64; omega, fun l hl => by
      unfold Pl.exL at hl
      simp only [List.mem_cons, List.not_mem_nil, or_false] at hl
      rcases hl with rfl | rfl | rfl <;> (unfold Tx.R64; simp only; omega)⟩) W h hT (Lib.hid (fun V hb => by
        have h8 := pCheck_any 2 3 a c Pl.exL V (Lib.hid (h.out.below hb))
        rw [Pl.exL_chk] at h8
        exact h8))
    rw [Pl.exL_prt] at h9
    exact h9))
  have HB := Lib.hid (fun (W : World) (a : Option Addr) (c : Nat) (x : Option Addr) (n ch : Nat) (hn : Hid (Pl.exW.length = n)) (h : Hid (WksAt W a Pl.exM)) (hl : Hid (LnAt W x Pl.exW)) => (show Calls Tryd.prog 40 #[.agg #[.int .i64 2, .int .i64 3, .slice a 4 c], .int .i64 0, .slice x n ch] W fun e w' => e = .returned (.int .i64 0) ∧ Below W.heap.size W w' from by
    have h9 := pCheckProof_ok 2 3 a 4 c Pl.exM rfl 0 VM x n ch Pl.exW hn (by rw [← hn.out]; exact Pl.exW_len) (Lib.hid Pl.exW_rng) W h hl
    rw [Pl.exM_ckp] at h9
    exact h9))
  obtain ⟨cpL, hcp, hcn⟩ : ∃ cpL, Pl.ckp 2 Pl.exL 0 Pl.exW = cpL ∧ (cpL != 0) = true := ⟨_, rfl, by rw [bne_iff_ne]; exact Pl.exL_ckp⟩
  have HD := Lib.hid (fun (W : World) (a : Option Addr) (c : Nat) (x : Option Addr) (n ch : Nat) (hn : Hid (Pl.exW.length = n)) (h : Hid (WksAt W a Pl.exL)) (hl : Hid (LnAt W x Pl.exW)) => (show Calls Tryd.prog 40 #[.agg #[.int .i64 2, .int .i64 3, .slice a 3 c], .int .i64 0, .slice x n ch] W fun e w' => e = .returned (.int .i64 cpL) ∧ Below W.heap.size W w' from by
    have h9 := pCheckProof_ok 2 3 a 3 c Pl.exL rfl 0 VL x n ch Pl.exW hn (by rw [← hn.out]; exact Pl.exW_len) (Lib.hid Pl.exW_rng) W h hl
    rw [hcp] at h9
    exact h9))
  clear hcp VL VM
  go_enter Tryd.func9, Tryd.ntmps9
  -- the walk
  go_wp2_with fail
  refine (twist_any w).mono ?_
  rintro e w1 ⟨y, rfl, hL, hW⟩
  go_upto_region 2 with fail
  have hbk := below_alloc (Below.refl w1.heap.size w1) (Obj.cells #[.int .i64 2, .int .i64 3, .slice (some y) 3 3] 34)
  have m0 : (w1.alloc (Obj.cells #[.int .i64 2, .int .i64 3, .slice (some y) 3 3] 34)).cell? ⟨w1.heap.size, 0, none⟩ = some (.int .i64 2) := by simp [go_sem]
  have m1 : (w1.alloc (Obj.cells #[.int .i64 2, .int .i64 3, .slice (some y) 3 3] 34)).cell? ⟨w1.heap.size, 1, none⟩ = some (.int .i64 3) := by simp [go_sem]
  have m2 : (w1.alloc (Obj.cells #[.int .i64 2, .int .i64 3, .slice (some y) 3 3] 34)).cell? ⟨w1.heap.size, 2, none⟩ = some (.slice (some y) 3 3) := by simp [go_sem]
  replace hL := Lib.hid (hL.out.below hbk)
  replace hW := hW.trans (hbk.mono hW.size)
  clear hbk
  generalize w1.alloc (Obj.cells #[.int .i64 2, .int .i64 3, .slice (some y) 3 3] 34) = X1 at *
  generalize w1.heap.size = bm at *
  go_wp2_with fail
  refine (H1.out X1 (some y) 3 hL).mono ?_
  rintro e w2 ⟨v, rfl, hS⟩
  have hbk := hS.out.b
  obtain ⟨asg, csg, rfl, hSg⟩ := hS.out.at
  replace m0 := kept1 m0 hbk
  replace m1 := kept1 m1 hbk
  replace m2 := kept1 m2 hbk
  replace hL := Lib.hid (hL.out.below hbk)
  replace hW := hW.trans (hbk.mono hW.size)
  replace hSg := Lib.hid hSg
  clear hbk hS X1
  go_wp2_with fail
  refine (H2.out w2 (some y) 3 hL).mono ?_
  rintro e w3 ⟨lb, wb, cl, cw, rfl, hNl, hNw, hbk⟩
  replace m0 := kept1 m0 hbk
  replace m1 := kept1 m1 hbk
  replace m2 := kept1 m2 hbk
  replace hL := Lib.hid (hL.out.below hbk)
  replace hSg := Lib.hid (hSg.out.below hbk)
  replace hW := hW.trans (hbk.mono hW.size)
  clear hbk w2
  go_wp2_with fail
  refine (H3.out w3 (some y) 3 hL).mono ?_
  rintro e w4 ⟨rfl, hbk⟩
  replace m0 := kept1 m0 hbk
  replace m1 := kept1 m1 hbk
  replace m2 := kept1 m2 hbk
  replace hL := Lib.hid (hL.out.below hbk)
  replace hSg := Lib.hid (hSg.out.below hbk)
  replace hNl := Lib.hid (hNl.out.below hbk)
  replace hNw := Lib.hid (hNw.out.below hbk)
  replace hW := hW.trans (hbk.mono hW.size)
  clear hbk w3
  have hlit := Lib.hid (ns_lit w4 [5, 7])
  have hbk := below_alloc (Below.refl w4.heap.size w4) (Obj.cells #[.int .i64 5, .int .i64 7] 3)
  go_wp2_with fail
  replace m0 := kept1 m0 hbk
  replace m1 := kept1 m1 hbk
  replace m2 := kept1 m2 hbk
  replace hL := Lib.hid (hL.out.below hbk)
  replace hSg := Lib.hid (hSg.out.below hbk)
  replace hNl := Lib.hid (hNl.out.below hbk)
  replace hNw := Lib.hid (hNw.out.below hbk)
  replace hW := hW.trans (hbk.mono hW.size)
  clear hbk
  refine (H4.out (w4.alloc (Obj.cells #[.int .i64 5, .int .i64 7] 3)) (some y) 3 (some ⟨w4.heap.size, 0, none⟩) 2 hL hlit).mono ?_
  rintro e w5 ⟨pb, B, rb, rfl, hMX, _, hbk⟩
  clear hlit
  replace m0 := kept1 m0 hbk
  replace m1 := kept1 m1 hbk
  replace m2 := kept1 m2 hbk
  replace hL := Lib.hid (hL.out.below hbk)
  replace hSg := Lib.hid (hSg.out.below hbk)
  replace hNl := Lib.hid (hNl.out.below hbk)
  replace hNw := Lib.hid (hNw.out.below hbk)
  replace hW := hW.trans (hbk.mono hW.size)
  clear hbk
  go_wp2_with fail
  refine (H5.out w5 (some y) 3 (Lib.hid (fun h => by cases h)) hL).mono ?_
  rintro e w6 ⟨a', c', rfl, hM, han, hbk⟩
  replace m0 := kept1 m0 hbk
  replace m1 := kept1 m1 hbk
  replace m2 := kept1 m2 hbk
  replace hL := Lib.hid (hL.out.below hbk)
  replace hSg := Lib.hid (hSg.out.below hbk)
  replace hNl := Lib.hid (hNl.out.below hbk)
  replace hNw := Lib.hid (hNw.out.below hbk)
  replace hMX := Lib.hid (hMX.out.below hbk)
  replace hW := hW.trans (hbk.mono hW.size)
  clear hbk
  go_upto_region 7 with fail
  have hbk := below_alloc (Below.refl w6.heap.size w6) (Obj.cells #[.int .i64 2, .int .i64 3, .slice a' 4 c'] 34)
  have n0 : (w6.alloc (Obj.cells #[.int .i64 2, .int .i64 3, .slice a' 4 c'] 34)).cell? ⟨w6.heap.size, 0, none⟩ = some (.int .i64 2) := by simp [go_sem]
  have n1 : (w6.alloc (Obj.cells #[.int .i64 2, .int .i64 3, .slice a' 4 c'] 34)).cell? ⟨w6.heap.size, 1, none⟩ = some (.int .i64 3) := by simp [go_sem]
  have n2 : (w6.alloc (Obj.cells #[.int .i64 2, .int .i64 3, .slice a' 4 c'] 34)).cell? ⟨w6.heap.size, 2, none⟩ = some (.slice a' 4 c') := by simp [go_sem]
  replace m0 := kept1 m0 hbk
  replace m1 := kept1 m1 hbk
  replace m2 := kept1 m2 hbk
  replace hL := Lib.hid (hL.out.below hbk)
  replace hSg := Lib.hid (hSg.out.below hbk)
  replace hNl := Lib.hid (hNl.out.below hbk)
  replace hNw := Lib.hid (hNw.out.below hbk)
  replace hMX := Lib.hid (hMX.out.below hbk)
  replace hM := Lib.hid (hM.out.below hbk)
  replace hW := hW.trans (hbk.mono hW.size)
  clear hbk
  generalize w6.alloc (Obj.cells #[.int .i64 2, .int .i64 3, .slice a' 4 c'] 34) = X6 at *
  generalize w6.heap.size = bn at *
  go_wp2_with fail
  refine (H6.out X6 a' c' hM).mono ?_
  rintro e w7 ⟨rfl, hbk⟩
  replace m0 := kept1 m0 hbk
  replace m1 := kept1 m1 hbk
  replace m2 := kept1 m2 hbk
  replace hL := Lib.hid (hL.out.below hbk)
  replace hSg := Lib.hid (hSg.out.below hbk)
  replace hNl := Lib.hid (hNl.out.below hbk)
  replace hNw := Lib.hid (hNw.out.below hbk)
  replace hMX := Lib.hid (hMX.out.below hbk)
  replace hM := Lib.hid (hM.out.below hbk)
  replace n0 := kept1 n0 hbk
  replace n1 := kept1 n1 hbk
  replace n2 := kept1 n2 hbk
  replace hW := hW.trans (hbk.mono hW.size)
  clear hbk X6
  go_wp2_with fail
  refine (H7.out w7).mono ?_
  rintro e w8 ⟨rfl, hbk⟩
  replace m0 := kept1 m0 hbk
  replace m1 := kept1 m1 hbk
  replace m2 := kept1 m2 hbk
  replace hL := Lib.hid (hL.out.below hbk)
  replace hSg := Lib.hid (hSg.out.below hbk)
  replace hNl := Lib.hid (hNl.out.below hbk)
  replace hNw := Lib.hid (hNw.out.below hbk)
  replace hMX := Lib.hid (hMX.out.below hbk)
  replace hM := Lib.hid (hM.out.below hbk)
  replace n0 := kept1 n0 hbk
  replace n1 := kept1 n1 hbk
  replace n2 := kept1 n2 hbk
  replace hW := hW.trans (hbk.mono hW.size)
  clear hbk
  go_wp2_with fail
  refine (H8.out w8).mono ?_
  rintro e w9 ⟨rfl, hw9⟩
  subst hw9
  go_wp2_with fail
  refine (H9.out w9 a' c' hM).mono ?_
  rintro e w10 ⟨vp, np, cp, rfl, hnp, hLn, hbk⟩
  replace m0 := kept1 m0 hbk
  replace m1 := kept1 m1 hbk
  replace m2 := kept1 m2 hbk
  replace hL := Lib.hid (hL.out.below hbk)
  replace hSg := Lib.hid (hSg.out.below hbk)
  replace hNl := Lib.hid (hNl.out.below hbk)
  replace hNw := Lib.hid (hNw.out.below hbk)
  replace hMX := Lib.hid (hMX.out.below hbk)
  replace hM := Lib.hid (hM.out.below hbk)
  replace n0 := kept1 n0 hbk
  replace n1 := kept1 n1 hbk
  replace n2 := kept1 n2 hbk
  replace hW := hW.trans (hbk.mono hW.size)
  clear hbk
  go_wp2_with fail
  refine (HA.out w10 (some y) 3 hL (Lib.hid (Tab.mono (hT.out.on hW) hW.size))).mono ?_
  rintro e w11 ⟨rfl, hbk⟩
  replace m0 := kept1 m0 hbk
  replace m1 := kept1 m1 hbk
  replace m2 := kept1 m2 hbk
  replace hL := Lib.hid (hL.out.below hbk)
  replace hSg := Lib.hid (hSg.out.below hbk)
  replace hNl := Lib.hid (hNl.out.below hbk)
  replace hNw := Lib.hid (hNw.out.below hbk)
  replace hMX := Lib.hid (hMX.out.below hbk)
  replace hM := Lib.hid (hM.out.below hbk)
  replace n0 := kept1 n0 hbk
  replace n1 := kept1 n1 hbk
  replace n2 := kept1 n2 hbk
  replace hLn := Lib.hid (hLn.out.below hbk)
  replace hW := hW.trans (hbk.mono hW.size)
  clear hbk
  go_wp2_with fail
  refine (HB.out w11 a' c' vp np cp hnp hM hLn).mono ?_
  rintro e w12 ⟨rfl, hbk⟩
  replace m0 := kept1 m0 hbk
  replace m1 := kept1 m1 hbk
  replace m2 := kept1 m2 hbk
  replace hL := Lib.hid (hL.out.below hbk)
  replace hSg := Lib.hid (hSg.out.below hbk)
  replace hNl := Lib.hid (hNl.out.below hbk)
  replace hNw := Lib.hid (hNw.out.below hbk)
  replace hMX := Lib.hid (hMX.out.below hbk)
  replace hM := Lib.hid (hM.out.below hbk)
  replace n0 := kept1 n0 hbk
  replace n1 := kept1 n1 hbk
  replace n2 := kept1 n2 hbk
  replace hLn := Lib.hid (hLn.out.below hbk)
  replace hW := hW.trans (hbk.mono hW.size)
  clear hbk
  go_wp2_with fail
  refine (HD.out w12 (some y) 3 vp np cp hnp hL hLn).mono ?_
  rintro e w13 ⟨rfl, hbk⟩
  replace m0 := kept1 m0 hbk
  replace m1 := kept1 m1 hbk
  replace m2 := kept1 m2 hbk
  replace hL := Lib.hid (hL.out.below hbk)
  replace hSg := Lib.hid (hSg.out.below hbk)
  replace hNl := Lib.hid (hNl.out.below hbk)
  replace hNw := Lib.hid (hNw.out.below hbk)
  replace hMX := Lib.hid (hMX.out.below hbk)
  replace hM := Lib.hid (hM.out.below hbk)
  replace n0 := kept1 n0 hbk
  replace n1 := kept1 n1 hbk
  replace n2 := kept1 n2 hbk
  replace hLn := Lib.hid (hLn.out.below hbk)
  replace hW := hW.trans (hbk.mono hW.size)
  clear hbk
  go_wp2_with fail
  have hbk := below_alloc (Below.refl w13.heap.size w13) (Obj.cells #[.int .i64 0, .bool false, .int .i64 4, .bool true] 70)
  have hlit := Lib.hid (sgs_lit w13)
  replace m0 := kept1 m0 hbk
  replace m1 := kept1 m1 hbk
  replace m2 := kept1 m2 hbk
  replace hL := Lib.hid (hL.out.below hbk)
  replace hSg := Lib.hid (hSg.out.below hbk)
  replace hNl := Lib.hid (hNl.out.below hbk)
  replace hNw := Lib.hid (hNw.out.below hbk)
  replace hMX := Lib.hid (hMX.out.below hbk)
  replace hM := Lib.hid (hM.out.below hbk)
  replace n0 := kept1 n0 hbk
  replace n1 := kept1 n1 hbk
  replace n2 := kept1 n2 hbk
  replace hLn := Lib.hid (hLn.out.below hbk)
  replace hW := hW.trans (hbk.mono hW.size)
  clear hbk
  refine (sameSigns_loop asg (some ⟨w13.heap.size, 0, none⟩) 2 csg 2 [(0, false), (4, true)] [(0, false), (4, true)] (Lib.hid rfl) (Lib.hid rfl) (by omega) true (Lib.hid (by decide)) (w13.alloc (Obj.cells #[.int .i64 0, .bool false, .int .i64 4, .bool true] 70)) hSg hlit).mono ?_
  rintro e w14 ⟨rfl, hbk⟩
  clear hlit
  replace m0 := kept1 m0 hbk
  replace m1 := kept1 m1 hbk
  replace m2 := kept1 m2 hbk
  replace hL := Lib.hid (hL.out.below hbk)
  replace hSg := Lib.hid (hSg.out.below hbk)
  replace hNl := Lib.hid (hNl.out.below hbk)
  replace hNw := Lib.hid (hNw.out.below hbk)
  replace hMX := Lib.hid (hMX.out.below hbk)
  replace hM := Lib.hid (hM.out.below hbk)
  replace n0 := kept1 n0 hbk
  replace n1 := kept1 n1 hbk
  replace n2 := kept1 n2 hbk
  replace hLn := Lib.hid (hLn.out.below hbk)
  replace hW := hW.trans (hbk.mono hW.size)
  clear hbk
  go_wp2_with fail
  have hbk := below_alloc (Below.refl w14.heap.size w14) (Obj.cells #[.int .i64 0, .int .i64 0, .int .i64 2, .int .i64 2] 3)
  have hlit := Lib.hid (ns_lit w14 [0, 0, 2, 2])
  replace m0 := kept1 m0 hbk
  replace m1 := kept1 m1 hbk
  replace m2 := kept1 m2 hbk
  replace hL := Lib.hid (hL.out.below hbk)
  replace hSg := Lib.hid (hSg.out.below hbk)
  replace hNl := Lib.hid (hNl.out.below hbk)
  replace hNw := Lib.hid (hNw.out.below hbk)
  replace hMX := Lib.hid (hMX.out.below hbk)
  replace hM := Lib.hid (hM.out.below hbk)
  replace n0 := kept1 n0 hbk
  replace n1 := kept1 n1 hbk
  replace n2 := kept1 n2 hbk
  replace hLn := Lib.hid (hLn.out.below hbk)
  replace hW := hW.trans (hbk.mono hW.size)
  clear hbk
  refine (pSameInts_loop (some ⟨lb, 0, none⟩) (some ⟨w14.heap.size, 0, none⟩) 4 cl 4 [0, 0, 2, 2] [0, 0, 2, 2] (Lib.hid rfl) (Lib.hid rfl) (by omega) true (Lib.hid (by decide)) (w14.alloc (Obj.cells #[.int .i64 0, .int .i64 0, .int .i64 2, .int .i64 2] 3)) hNl hlit).mono ?_
  rintro e w15 ⟨rfl, hbk⟩
  clear hlit
  replace m0 := kept1 m0 hbk
  replace m1 := kept1 m1 hbk
  replace m2 := kept1 m2 hbk
  replace hL := Lib.hid (hL.out.below hbk)
  replace hSg := Lib.hid (hSg.out.below hbk)
  replace hNl := Lib.hid (hNl.out.below hbk)
  replace hNw := Lib.hid (hNw.out.below hbk)
  replace hMX := Lib.hid (hMX.out.below hbk)
  replace hM := Lib.hid (hM.out.below hbk)
  replace n0 := kept1 n0 hbk
  replace n1 := kept1 n1 hbk
  replace n2 := kept1 n2 hbk
  replace hLn := Lib.hid (hLn.out.below hbk)
  replace hW := hW.trans (hbk.mono hW.size)
  clear hbk
  go_wp2_with fail
  have hbk := below_alloc (Below.refl w15.heap.size w15) (Obj.cells #[.int .i64 1, .int .i64 (-1), .int .i64 1, .int .i64 (-1)] 3)
  have hlit := Lib.hid (ns_lit w15 [1, -1, 1, -1])
  replace m0 := kept1 m0 hbk
  replace m1 := kept1 m1 hbk
  replace m2 := kept1 m2 hbk
  replace hL := Lib.hid (hL.out.below hbk)
  replace hSg := Lib.hid (hSg.out.below hbk)
  replace hNl := Lib.hid (hNl.out.below hbk)
  replace hNw := Lib.hid (hNw.out.below hbk)
  replace hMX := Lib.hid (hMX.out.below hbk)
  replace hM := Lib.hid (hM.out.below hbk)
  replace n0 := kept1 n0 hbk
  replace n1 := kept1 n1 hbk
  replace n2 := kept1 n2 hbk
  replace hLn := Lib.hid (hLn.out.below hbk)
  replace hW := hW.trans (hbk.mono hW.size)
  clear hbk
  refine (pSameInts_loop (some ⟨wb, 0, none⟩) (some ⟨w15.heap.size, 0, none⟩) 4 cw 4 [1, -1, 1, -1] [1, -1, 1, -1] (Lib.hid rfl) (Lib.hid rfl) (by omega) true (Lib.hid (by decide)) (w15.alloc (Obj.cells #[.int .i64 1, .int .i64 (-1), .int .i64 1, .int .i64 (-1)] 3)) hNw hlit).mono ?_
  rintro e w16 ⟨rfl, hbk⟩
  clear hlit
  replace m0 := kept1 m0 hbk
  replace m1 := kept1 m1 hbk
  replace m2 := kept1 m2 hbk
  replace hL := Lib.hid (hL.out.below hbk)
  replace hSg := Lib.hid (hSg.out.below hbk)
  replace hNl := Lib.hid (hNl.out.below hbk)
  replace hNw := Lib.hid (hNw.out.below hbk)
  replace hMX := Lib.hid (hMX.out.below hbk)
  replace hM := Lib.hid (hM.out.below hbk)
  replace n0 := kept1 n0 hbk
  replace n1 := kept1 n1 hbk
  replace n2 := kept1 n2 hbk
  replace hLn := Lib.hid (hLn.out.below hbk)
  replace hW := hW.trans (hbk.mono hW.size)
  clear hbk
  have hp1 := hMX.out.p.cell (i := 1) (by omega)
  simp only [show (1 : Nat) < 3 by omega, if_true] at hp1
  have hNr : Hid (NsAt w16 (some ⟨rb 1, 0, none⟩) [-5, 5, -7, 7]) := Lib.hid (ns_of_exP (hMX.out.r 1 (by omega)))
  go_wp2_with fail
  have hbk := below_alloc (Below.refl w16.heap.size w16) (Obj.cells #[.int .i64 (-5), .int .i64 5, .int .i64 (-7), .int .i64 7] 3)
  have hlit := Lib.hid (ns_lit w16 [-5, 5, -7, 7])
  replace m0 := kept1 m0 hbk
  replace m1 := kept1 m1 hbk
  replace m2 := kept1 m2 hbk
  replace hL := Lib.hid (hL.out.below hbk)
  replace hSg := Lib.hid (hSg.out.below hbk)
  replace hNl := Lib.hid (hNl.out.below hbk)
  replace hNw := Lib.hid (hNw.out.below hbk)
  replace hMX := Lib.hid (hMX.out.below hbk)
  replace hM := Lib.hid (hM.out.below hbk)
  replace n0 := kept1 n0 hbk
  replace n1 := kept1 n1 hbk
  replace n2 := kept1 n2 hbk
  replace hLn := Lib.hid (hLn.out.below hbk)
  replace hp1 := kept1 hp1 hbk
  replace hNr := Lib.hid (hNr.out.below hbk)
  replace hW := hW.trans (hbk.mono hW.size)
  clear hbk
  refine (pSameInts_loop (some ⟨rb 1, 0, none⟩) (some ⟨w16.heap.size, 0, none⟩) 4 4 4 [-5, 5, -7, 7] [-5, 5, -7, 7] (Lib.hid rfl) (Lib.hid rfl) (by omega) true (Lib.hid (by decide)) (w16.alloc (Obj.cells #[.int .i64 (-5), .int .i64 5, .int .i64 (-7), .int .i64 7] 3)) hNr hlit).mono ?_
  rintro e w17 ⟨rfl, hbk⟩
  clear hlit
  replace m0 := kept1 m0 hbk
  replace m1 := kept1 m1 hbk
  replace m2 := kept1 m2 hbk
  replace hL := Lib.hid (hL.out.below hbk)
  replace hSg := Lib.hid (hSg.out.below hbk)
  replace hNl := Lib.hid (hNl.out.below hbk)
  replace hNw := Lib.hid (hNw.out.below hbk)
  replace hMX := Lib.hid (hMX.out.below hbk)
  replace hM := Lib.hid (hM.out.below hbk)
  replace n0 := kept1 n0 hbk
  replace n1 := kept1 n1 hbk
  replace n2 := kept1 n2 hbk
  replace hLn := Lib.hid (hLn.out.below hbk)
  replace hp1 := kept1 hp1 hbk
  replace hNr := Lib.hid (hNr.out.below hbk)
  replace hW := hW.trans (hbk.mono hW.size)
  clear hbk
  go_wp2
  go_ret
  exact ⟨rfl, hW⟩
end Go.Proofs.YtidcedilfhmllaaDoor
