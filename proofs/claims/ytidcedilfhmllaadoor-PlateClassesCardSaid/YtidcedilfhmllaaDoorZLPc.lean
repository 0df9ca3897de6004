/- The law PlateClasses: Classes, Freedom and Flat against the specification. Written by genLPc.py. -/
import Derived.Test.YtidcedilfhmllaaDoorZ29
import Derived.Test.YtidcedilfhmllaaDoorZJlp
import Derived.Test.YtidcedilfhmllaaDoorZJnp
import Derived.Test.YtidcedilfhmllaaDoorZJzzk
import Derived.Test.YtidcedilfhmllaaDoorZJzzd
import Derived.Test.YtidcedilfhmllaaDoorZ12
set_option linter.unusedSimpArgs false
set_option linter.unusedVariables false
namespace Go.Proofs.YtidcedilfhmllaaDoor
open Go.RowKit
set_option linter.unusedVariables false
set_option linter.unusedSimpArgs false
theorem cl_new (w : World) : (w.alloc (Obj.cells #[.slice none 0 0, .slice none 0 0] 44)).rowIs w.heap.size 44 2 (fun _ => .slice none 0 0) := cl_row w

set_option maxRecDepth 100000 in
set_option maxHeartbeats 8000000 in
theorem classes_wide (s m : Int) (a : Option Addr) (q cap : Nat) (L : List Pl.Wk) (hq : Hid (L.length = q)) (p : Int) (w : World) (hL : Hid (WksAt w a L)) (hT : Hid (Tab w.heap.size w)) (h20 : ¬ q ≤ 20) :
    Calls Tryd.prog 4 #[.agg #[.int .i64 s, .int .i64 m, .slice a q cap], .int .i64 p] w (LawPost w) := by
  have HS := Lib.hid (fun (W : World) (hb : Below w.heap.size w W) => sanityP_any W (Lib.hid (Tab.mono (hT.out.on hb) hb.size)))
  have HM := fun (W : World) => pSmall_any s m a q cap false (Lib.hid (decide_eq_false h20)) W
  replace HM := Lib.hid HM
  go_enter Tryd.func4, Tryd.ntmps4
  go_upto_region 1 with fail
  have b0 : (w.alloc (Obj.cells #[.int .i64 s, .int .i64 m, .slice a q cap] 34)).cell? ⟨w.heap.size, 0, none⟩ = some (.int .i64 s) := by simp [go_sem]
  have b1 : (w.alloc (Obj.cells #[.int .i64 s, .int .i64 m, .slice a q cap] 34)).cell? ⟨w.heap.size, 1, none⟩ = some (.int .i64 m) := by simp [go_sem]
  have b2 : (w.alloc (Obj.cells #[.int .i64 s, .int .i64 m, .slice a q cap] 34)).cell? ⟨w.heap.size, 2, none⟩ = some (.slice a q cap) := by simp [go_sem]
  have hX : Below w.heap.size w (w.alloc (Obj.cells #[.int .i64 s, .int .i64 m, .slice a q cap] 34)) := below_alloc (Below.refl _ _) _
  generalize (w.alloc (Obj.cells #[.int .i64 s, .int .i64 m, .slice a q cap] 34)) = X at *
  go_wp2_with fail
  refine (HM.out _).mono ?_
  rintro e w1 ⟨rfl, hb1⟩
  replace hX := hX.trans (hb1.mono hX.size)
  replace b0 := kept1 b0 hb1
  replace b1 := kept1 b1 hb1
  replace b2 := kept1 b2 hb1
  clear hb1 HM X
  go_wp2_with fail
  refine (HS.out _ hX).mono ?_
  rintro e w9 ⟨rfl, hb9⟩
  replace hX := hX.trans (hb9.mono hX.size)
  go_wp2
  go_ret
  exact ⟨rfl, hX⟩
set_option maxRecDepth 100000 in
set_option maxHeartbeats 8000000 in
theorem classes_bad (s m : Int) (a : Option Addr) (q cap : Nat) (L : List Pl.Wk) (hq : Hid (L.length = q)) (p : Int) (w : World) (hL : Hid (WksAt w a L)) (hT : Hid (Tab w.heap.size w)) (h20 : q ≤ 20) (E : Int) (hE : Hid (Pl.cpl s m L p = E)) (hE0 : E ≠ 0) :
    Calls Tryd.prog 4 #[.agg #[.int .i64 s, .int .i64 m, .slice a q cap], .int .i64 p] w (LawPost w) := by
  have n0 : (E == 0) = false := by simpa using hE0
  have n1 : (E != 0) = true := by simpa using hE0
  have H1 := Lib.hid (fun (W : World) (hb : Below w.heap.size w W) => pClasses_no s m a cap L q hq p E hE hE0 W (Lib.hid (hL.out.below hb)))
  have H2 := Lib.hid (fun (W : World) (hb : Below w.heap.size w W) => pFreedom_no s m a cap L q hq p E hE hE0 W (Lib.hid (hL.out.below hb)))
  have H3 := Lib.hid (fun (W : World) (hb : Below w.heap.size w W) => pFlat_no s m a cap L q hq p E hE hE0 W (Lib.hid (hL.out.below hb)))
  have H4 := Lib.hid (fun (W : World) (hb : Below w.heap.size w W) => pAsked_any s m a cap L q hq p W (Lib.hid (hL.out.below hb)))
  have HS := Lib.hid (fun (W : World) (hb : Below w.heap.size w W) => sanityP_any W (Lib.hid (Tab.mono (hT.out.on hb) hb.size)))
  have HM := fun (W : World) => pSmall_any s m a q cap true (Lib.hid (decide_eq_true h20)) W
  replace HM := Lib.hid HM
  go_enter Tryd.func4, Tryd.ntmps4
  go_upto_region 1 with fail
  have b0 : (w.alloc (Obj.cells #[.int .i64 s, .int .i64 m, .slice a q cap] 34)).cell? ⟨w.heap.size, 0, none⟩ = some (.int .i64 s) := by simp [go_sem]
  have b1 : (w.alloc (Obj.cells #[.int .i64 s, .int .i64 m, .slice a q cap] 34)).cell? ⟨w.heap.size, 1, none⟩ = some (.int .i64 m) := by simp [go_sem]
  have b2 : (w.alloc (Obj.cells #[.int .i64 s, .int .i64 m, .slice a q cap] 34)).cell? ⟨w.heap.size, 2, none⟩ = some (.slice a q cap) := by simp [go_sem]
  have hX : Below w.heap.size w (w.alloc (Obj.cells #[.int .i64 s, .int .i64 m, .slice a q cap] 34)) := below_alloc (Below.refl _ _) _
  generalize (w.alloc (Obj.cells #[.int .i64 s, .int .i64 m, .slice a q cap] 34)) = X at *
  go_wp2_with fail
  refine (HM.out _).mono ?_
  rintro e w1 ⟨rfl, hb1⟩
  replace hX := hX.trans (hb1.mono hX.size)
  replace b0 := kept1 b0 hb1
  replace b1 := kept1 b1 hb1
  replace b2 := kept1 b2 hb1
  clear hb1 HM X
  go_wp2_with fail
  refine (H1.out _ hX).mono ?_
  rintro e w2 ⟨rfl, hb2⟩
  replace hX := hX.trans (hb2.mono hX.size)
  replace b0 := kept1 b0 hb2
  replace b1 := kept1 b1 hb2
  replace b2 := kept1 b2 hb2
  clear hb2
  go_wp2_with fail
  refine (H2.out _ hX).mono ?_
  rintro e w3 ⟨rfl, hb2⟩
  replace hX := hX.trans (hb2.mono hX.size)
  replace b0 := kept1 b0 hb2
  replace b1 := kept1 b1 hb2
  replace b2 := kept1 b2 hb2
  clear hb2
  go_wp2_with fail
  refine (H3.out _ hX).mono ?_
  rintro e w4 ⟨rfl, hb2⟩
  replace hX := hX.trans (hb2.mono hX.size)
  replace b0 := kept1 b0 hb2
  replace b1 := kept1 b1 hb2
  replace b2 := kept1 b2 hb2
  clear hb2
  go_wp2_with fail
  refine (H4.out _ hX).mono ?_
  rintro e w5 ⟨rfl, hb2⟩
  replace hX := hX.trans (hb2.mono hX.size)
  replace b0 := kept1 b0 hb2
  replace b1 := kept1 b1 hb2
  replace b2 := kept1 b2 hb2
  clear hb2
  rw [hE.out]
  clear H1 H2 H3 H4 b0 b1 b2
  go_wp2_with fail
  refine (HS.out _ hX).mono ?_
  rintro e w9 ⟨rfl, hb9⟩
  replace hX := hX.trans (hb9.mono hX.size)
  clear HS hb9
  go_wp2
  go_ret
  exact ⟨rfl, hX⟩
set_option maxRecDepth 100000 in
set_option maxHeartbeats 16000000 in
theorem classes_ok (s : Nat) (m : Int) (a : Option Addr) (q cap : Nat) (L : List Pl.Wk) (hq : Hid (L.length = q)) (p : Int) (w : World) (hL : Hid (WksAt w a L)) (hT : Hid (Tab w.heap.size w)) (h20 : q ≤ 20) (hV : Hid (Pl.VS s m L p)) :
    Calls Tryd.prog 4 #[.agg #[.int .i64 (s : Int), .int .i64 m, .slice a q cap], .int .i64 p] w (LawPost w) := by
  have hs3 : s * s ≤ 36 := Nat.mul_le_mul hV.out.s6 hV.out.s6
  have hsl := Pl.signs_len L p
  have hgrp := Pl.signs_grp hV.out.m6 hV.out.ok ⟨hV.out.p0, hV.out.pm⟩
  have hrc := Lib.hid (fun (x : Nat) (hx : x < s * s) => Pl.rcl_eq hV.out.s6 hgrp (Pl.clsL_uf hV.out.s6 hgrp.lt).1 hx)
  have H1 := Lib.hid (fun (W : World) (hb : Below w.heap.size w W) => pClasses_ok s m a q cap L hq.out p hV.out W (Lib.hid (hL.out.below hb)))
  have H2 := Lib.hid (fun (W : World) (hb : Below w.heap.size w W) => pFreedom_ok s m a q cap L hq.out p hV.out W (Lib.hid (hL.out.below hb)))
  have H3 := Lib.hid (fun (W : World) (hb : Below w.heap.size w W) => pFlat_ok s m a q cap L hq.out p hV.out W (Lib.hid (hL.out.below hb)))
  have H4 := fun (W : World) (hb : Below w.heap.size w W) => pAsked_any (s : Int) m a cap L q hq p W (Lib.hid (hL.out.below hb))
  rw [hV.out.c] at H4
  replace H4 := Lib.hid H4
  have H5 := Lib.hid (fun (W : World) (hb : Below w.heap.size w W) => rSigns_any (s : Int) m hV.out.m6 a q cap L hq.out (by have := hV.out.q; have := hq.out; omega) (Lib.hid hV.out.ok) p ⟨hV.out.p0, hV.out.pm⟩ W (Lib.hid (hL.out.below hb)))
  have H6 := Lib.hid (fun (b : Option Addr) (n c : Nat) (hn : (Pl.signs L p).length = n) (W : World) (hg : Hid (SgsAt W b (Pl.signs L p))) => rClasses_any s hV.out.s1 hV.out.s6 b n c (Pl.signs L p) (Lib.hid hn) (by omega) (Lib.hid hV.out.sg) W hg)
  have H7 := Lib.hid (fun (W : World) (hb : Below w.heap.size w W) => rFreedom_ok s m a q cap L hq.out p hV.out W (Lib.hid (hL.out.below hb)))
  obtain ⟨G, hG⟩ : ∃ G, Pl.signs L p = G := ⟨_, rfl⟩
  rw [hG] at hrc H1 H2 H3 H5 H6 H7 hsl
  obtain ⟨fr, hfr⟩ : ∃ fr, Pl.frd s G = fr := ⟨_, rfl⟩
  rw [hfr] at H2 H3 H7
  obtain ⟨N, hN⟩ : ∃ N, s * s = N := ⟨_, rfl⟩
  rw [hN] at hrc H1 H6 hs3
  clear hG hfr hN hgrp hV
  have HS := Lib.hid (fun (W : World) (hb : Below w.heap.size w W) => sanityP_any W (Lib.hid (Tab.mono (hT.out.on hb) hb.size)))
  have HM := fun (W : World) => pSmall_any (s : Int) m a q cap true (Lib.hid (decide_eq_true h20)) W
  replace HM := Lib.hid HM
  go_enter Tryd.func4, Tryd.ntmps4
  go_upto_region 1 with fail
  have b0 : (w.alloc (Obj.cells #[.int .i64 (s : Int), .int .i64 m, .slice a q cap] 34)).cell? ⟨w.heap.size, 0, none⟩ = some (.int .i64 (s : Int)) := by simp [go_sem]
  have b1 : (w.alloc (Obj.cells #[.int .i64 (s : Int), .int .i64 m, .slice a q cap] 34)).cell? ⟨w.heap.size, 1, none⟩ = some (.int .i64 m) := by simp [go_sem]
  have b2 : (w.alloc (Obj.cells #[.int .i64 (s : Int), .int .i64 m, .slice a q cap] 34)).cell? ⟨w.heap.size, 2, none⟩ = some (.slice a q cap) := by simp [go_sem]
  have hX : Below w.heap.size w (w.alloc (Obj.cells #[.int .i64 (s : Int), .int .i64 m, .slice a q cap] 34)) := below_alloc (Below.refl _ _) _
  generalize (w.alloc (Obj.cells #[.int .i64 (s : Int), .int .i64 m, .slice a q cap] 34)) = X at *
  go_wp2_with fail
  refine (HM.out _).mono ?_
  rintro e w1 ⟨rfl, hb1⟩
  replace hX := hX.trans (hb1.mono hX.size)
  replace b0 := kept1 b0 hb1
  replace b1 := kept1 b1 hb1
  replace b2 := kept1 b2 hb1
  clear hb1 HM X
  go_wp2_with fail
  refine (H1.out _ hX).mono ?_
  rintro e w2 ⟨lb, wb, cl, cw, rfl, hl, hw, hb2⟩
  replace hX := hX.trans (hb2.mono hX.size)
  replace b0 := kept1 b0 hb2
  replace b1 := kept1 b1 hb2
  replace b2 := kept1 b2 hb2
  clear hb2
  have hl1 : Hid (NsAt w2 (some ⟨lb, 0, none⟩) ((List.range N).map fun x => (Pl.rLst s G x : Int))) := Lib.hid (ns_of_row hl.out _ (by simp) (fun k hk => by rw [← (hrc.out k hk).1, List.getD, List.getElem?_map, List.getElem?_range hk]; rfl))
  have hw1 : Hid (NsAt w2 (some ⟨wb, 0, none⟩) ((List.range N).map fun x => Pl.rWay s G x)) := Lib.hid (ns_of_row hw.out _ (by simp) (fun k hk => by rw [← (hrc.out k hk).2, List.getD, List.getElem?_map, List.getElem?_range hk]; rfl))
  clear hl hw hrc H1
  go_wp2_with fail
  refine (H2.out _ hX).mono ?_
  rintro e w3 ⟨rfl, hb2⟩
  replace hX := hX.trans (hb2.mono hX.size)
  replace b0 := kept1 b0 hb2
  replace b1 := kept1 b1 hb2
  replace b2 := kept1 b2 hb2
  replace hl1 := Lib.hid (hl1.out.below hb2)
  replace hw1 := Lib.hid (hw1.out.below hb2)
  clear hb2
  go_wp2_with fail
  refine (H3.out _ hX).mono ?_
  rintro e w4 ⟨rfl, hb2⟩
  replace hX := hX.trans (hb2.mono hX.size)
  replace b0 := kept1 b0 hb2
  replace b1 := kept1 b1 hb2
  replace b2 := kept1 b2 hb2
  replace hl1 := Lib.hid (hl1.out.below hb2)
  replace hw1 := Lib.hid (hw1.out.below hb2)
  clear hb2
  go_wp2_with fail
  refine (H4.out _ hX).mono ?_
  rintro e w5 ⟨rfl, hb2⟩
  replace hX := hX.trans (hb2.mono hX.size)
  replace b0 := kept1 b0 hb2
  replace b1 := kept1 b1 hb2
  replace b2 := kept1 b2 hb2
  replace hl1 := Lib.hid (hl1.out.below hb2)
  replace hw1 := Lib.hid (hw1.out.below hb2)
  clear hb2
  clear H2 H3 H4
  go_upto_region 9 with fail
  go_cut [13] from 73 to 78 (fun s13 wx => ∃ gb b1 c1 b2 c2, s13 = .pointer (some ⟨gb, 0, none⟩) ∧ Hid (wx.cell? ⟨gb, 0, none⟩ = some (.slice b1 N c1)) ∧ Hid (wx.cell? ⟨gb, 1, none⟩ = some (.slice b2 N c2)) ∧ Hid (NsAt wx b1 ((List.range N).map fun x => (Pl.rLst s G x : Int))) ∧ Hid (NsAt wx b2 ((List.range N).map fun x => Pl.rWay s G x)) ∧ Hid (Below w5.heap.size w5 wx))
  case first =>
    have hS4 := Lib.hid (fun (W : World) (hb : Below w5.heap.size w5 W) => (⟨kept1 b0 hb, kept1 b1 hb, kept1 b2 hb⟩ : W.cell? ⟨w.heap.size, 0, none⟩ = some (.int .i64 (s : Int)) ∧ W.cell? ⟨w.heap.size, 1, none⟩ = some (.int .i64 m) ∧ W.cell? ⟨w.heap.size, 2, none⟩ = some (.slice a q cap)))
    have hb0 : Below w5.heap.size w5 w5.drew := (Below.refl _ _).drew
    have S0 := hS4.out _ hb0
    clear hl1 hw1 H7 HS b0 b1 b2 hT
    refine wp_region_held_drew (S := fun w' => w'.cell? ⟨w.heap.size, 0, none⟩ = some (.int .i64 (s : Int)) ∧ w'.cell? ⟨w.heap.size, 1, none⟩ = some (.int .i64 m) ∧ w'.cell? ⟨w.heap.size, 2, none⟩ = some (.slice a q cap)) (by kernel_rfl) S0 (fun hHeld => ?_)
    refine wpAnyH_take (i := 0) (v := ?_) rfl (by kernel_rfl) (by kernel_rfl) (by kernel_rfl) (fun _ _ _ h => h) (Or.inl ⟨by rfl, ?_⟩) (by assumption) ?_
    rotate_left 1
    · (intro w hSw; (try dsimp only at hSw); go_simp; all_goals with_reducible rfl)
    try simp only [Act.put, List.setIfInBounds_toArray, List.set_cons_zero, List.set_cons_succ]
    refine wpAnyH_take (i := 1) (v := ?_) rfl (by kernel_rfl) (by kernel_rfl) (by kernel_rfl) (fun _ _ _ h => h) (Or.inl ⟨by rfl, ?_⟩) (by assumption) ?_
    rotate_left 1
    · (intro w hSw; (try dsimp only at hSw); go_simp; all_goals with_reducible rfl)
    try simp only [Act.put, List.setIfInBounds_toArray, List.set_cons_zero, List.set_cons_succ]
    refine wpAnyH_take (i := 2) (v := ?_) rfl (by kernel_rfl) (by kernel_rfl) (by kernel_rfl) (fun _ _ _ h => h) (Or.inl ⟨by rfl, ?_⟩) (by assumption) ?_
    rotate_left 1
    · (intro w hSw; (try dsimp only at hSw); go_simp; all_goals with_reducible rfl)
    try simp only [Act.put, List.setIfInBounds_toArray, List.set_cons_zero, List.set_cons_succ]
    refine wpAnyH_take (i := 3) (v := ?_) rfl (by kernel_rfl) (by kernel_rfl) (by kernel_rfl) (fun _ _ _ h => h) (Or.inl ⟨by rfl, ?_⟩) (by assumption) ?_
    rotate_left 1
    · (intro w hSw; (try dsimp only at hSw); go_simp; all_goals with_reducible rfl)
    try simp only [Act.put, List.setIfInBounds_toArray, List.set_cons_zero, List.set_cons_succ]
    try simp only [List.getElem_toArray, List.getElem_cons_succ, List.getElem_cons_zero, Act.put, List.setIfInBounds_toArray, List.set_cons_zero, List.set_cons_succ]
    generalize w5.drew = Y0 at *
    refine wpAnyH_ready (rs := [4, 6]) (by kernel_rfl) (by simp) ?_
    refine AllReadyH.cons rfl (fun K hK => ?_) (AllReadyH.cons rfl (fun K hK => ?_) (AllReadyH.nil))
    · skip
      have H59 := Lib.hid (H5.out _ (hX.trans (hb0.mono hX.size)))
      go_simp
      with_reducible refine (H59.out).mono ?_
      rintro e Y1 ⟨v, he, hO⟩
      subst he
      obtain ⟨ga, gc, rfl, hGs⟩ := hO.out.at
      replace hGs := Lib.hid hGs
      have hba := hO.out.b
      have hb1 := hb0.trans (hba.mono hb0.size)
      refine hK.out _ _ (hS4.out _ hb1) (fun hHx => ?_)
      clear hK K hba hHx hO H59 hb0
      try simp only [List.getElem_toArray, List.getElem_cons_succ, List.getElem_cons_zero, Act.put, List.setIfInBounds_toArray, List.set_cons_zero, List.set_cons_succ]
      refine wpAnyH_ready (rs := [5, 6]) (by kernel_rfl) (by simp) ?_
      refine AllReadyH.cons rfl (fun K hK => ?_) (AllReadyH.cons rfl (fun K hK => ?_) (AllReadyH.nil))
      · skip
        have H69 := Lib.hid (H6.out ga G.length gc rfl Y1 hGs)
        go_simp
        with_reducible refine (H69.out).mono ?_
        rintro e Y2 ⟨e1, f1, e2, f2, he, n1, n2, z1, z2, hba⟩
        subst he
        have hb2 := hb1.trans (hba.mono hb1.size)
        refine hK.out _ _ (hS4.out _ hb2) (fun hHx => ?_)
        clear hK K hba hHx H69 hb1
        try simp only [List.getElem_toArray, List.getElem_cons_succ, List.getElem_cons_zero, Act.put, List.setIfInBounds_toArray, List.set_cons_zero, List.set_cons_succ]
        refine wpAnyH_ready (rs := [6]) (by kernel_rfl) (by simp) ?_
        refine AllReadyH.cons rfl (fun K hK => ?_) (AllReadyH.nil)
        · skip
          have rB := cl_new Y2
          have hb3 := below_alloc hb2 (Obj.cells #[.slice none 0 0, .slice none 0 0] 44)
          have hba := below_alloc (Below.refl Y2.heap.size Y2) (Obj.cells #[.slice none 0 0, .slice none 0 0] 44)
          have hgb : w5.heap.size ≤ Y2.heap.size := hb2.size
          replace n1 := Lib.hid (n1.out.below hba)
          replace n2 := Lib.hid (n2.out.below hba)
          have q1 : Hid (∀ y, e1 = some y → ¬ y.block = Y2.heap.size) := Lib.hid (fun y e c => by have := z1.out y e; omega)
          have q2 : Hid (∀ y, e2 = some y → ¬ y.block = Y2.heap.size) := Lib.hid (fun y e c => by have := z2.out y e; omega)
          go_simp
          refine hK.out _ _ (hS4.out _ hb3) (fun hHx => ?_)
          clear hK K hba hHx hb2
          generalize Y2.alloc (Obj.cells #[.slice none 0 0, .slice none 0 0] 44) = Y3 at *
          generalize Y2.heap.size = gb at *
          try simp only [List.getElem_toArray, List.getElem_cons_succ, List.getElem_cons_zero, Act.put, List.setIfInBounds_toArray, List.set_cons_zero, List.set_cons_succ]
          have zc0 := rB.cell (i := 0) (by omega)
          have zc1 := rB.cell (i := 1) (by omega)
          have zf0 := rB.frozen 0
          have zf1 := rB.frozen 1
          have hbV : Below w5.heap.size w5 ((Y3.setCell ⟨gb, 0, none⟩ (.slice e1 N f1)).setCell ⟨gb, 1, none⟩ (.slice e2 N f2)) := (hb3.setCell (p := ⟨gb, 0, none⟩) hgb _).setCell (p := ⟨gb, 1, none⟩) hgb _
          have hbt : But (fun k => k = gb) Y3 ((Y3.setCell ⟨gb, 0, none⟩ (.slice e1 N f1)).setCell ⟨gb, 1, none⟩ (.slice e2 N f2)) := ((But.refl (fun k => k = gb) Y3).setCell (p := ⟨gb, 0, none⟩) (.inr rfl) _).setCell (p := ⟨gb, 1, none⟩) (.inr rfl) _
          have n1' : Hid (NsAt ((Y3.setCell ⟨gb, 0, none⟩ (.slice e1 N f1)).setCell ⟨gb, 1, none⟩ (.slice e2 N f2)) e1 ((List.range N).map fun x => (Pl.rLst s G x : Int))) := Lib.hid (ns_but n1.out hbt (fun y e => q1.out y e))
          have n2' : Hid (NsAt ((Y3.setCell ⟨gb, 0, none⟩ (.slice e1 N f1)).setCell ⟨gb, 1, none⟩ (.slice e2 N f2)) e2 ((List.range N).map fun x => Pl.rWay s G x)) := Lib.hid (ns_but n2.out hbt (fun y e => q2.out y e))
          have y0 : Hid (((Y3.setCell ⟨gb, 0, none⟩ (.slice e1 N f1)).setCell ⟨gb, 1, none⟩ (.slice e2 N f2)).cell? ⟨gb, 0, none⟩ = some (.slice e1 N f1)) := Lib.hid (by simp [go_sem, zc0])
          have y1 : Hid (((Y3.setCell ⟨gb, 0, none⟩ (.slice e1 N f1)).setCell ⟨gb, 1, none⟩ (.slice e2 N f2)).cell? ⟨gb, 1, none⟩ = some (.slice e2 N f2)) := Lib.hid (by simp [go_sem, zc1])
          refine wpAnyH_ready (rs := [7]) (by kernel_rfl) (by simp) ?_
          refine AllReadyH.cons rfl (fun K hK => ?_) ?_
          rotate_left 1
          · exact AllReadyH.nil
          go_simp
          refine hK.out _ _ (hS4.out _ hbV) (fun hHx => ?_)
          clear hK K hHx rB zf0 zf1 zc0 zc1 hbt
          try simp only [List.getElem_toArray, List.getElem_cons_succ, List.getElem_cons_zero, Act.put, List.setIfInBounds_toArray, List.set_cons_zero, List.set_cons_succ]
          refine wpAnyH_done (by kernel_rfl) ?_ _
          try simp only [List.getElem_toArray, List.getElem_cons_succ, List.getElem_cons_zero, Act.put, List.setIfInBounds_toArray, List.set_cons_zero, List.set_cons_succ]
          replace hbV := Lib.hid hbV
          clear hb3
          go_wp2
          go_meet
          exact ⟨_, _, _, _, _, rfl, y0, y1, n1', n2', hbV⟩
      · skip
        have rB := cl_new Y1
        have hb2 := below_alloc hb1 (Obj.cells #[.slice none 0 0, .slice none 0 0] 44)
        have hba := below_alloc (Below.refl Y1.heap.size Y1) (Obj.cells #[.slice none 0 0, .slice none 0 0] 44)
        have hgb : w5.heap.size ≤ Y1.heap.size := hb1.size
        replace hGs := Lib.hid (hGs.out.below hba)
        go_simp
        refine hK.out _ _ (hS4.out _ hb2) (fun hHx => ?_)
        clear hK K hba hHx hb1
        generalize Y1.alloc (Obj.cells #[.slice none 0 0, .slice none 0 0] 44) = Y2 at *
        generalize Y1.heap.size = gb at *
        try simp only [List.getElem_toArray, List.getElem_cons_succ, List.getElem_cons_zero, Act.put, List.setIfInBounds_toArray, List.set_cons_zero, List.set_cons_succ]
        refine wpAnyH_ready (rs := [5]) (by kernel_rfl) (by simp) ?_
        refine AllReadyH.cons rfl (fun K hK => ?_) (AllReadyH.nil)
        · skip
          have H69 := Lib.hid (H6.out ga G.length gc rfl Y2 hGs)
          go_simp
          with_reducible refine (H69.out).mono ?_
          rintro e Y3 ⟨e1, f1, e2, f2, he, n1, n2, z1, z2, hba⟩
          subst he
          have hb3 := hb2.trans (hba.mono hb2.size)
          have q1 : Hid (∀ y, e1 = some y → ¬ y.block = gb) := Lib.hid (fun y e c => by have := (z1.out y e); have h9 := rB.lt; omega)
          have q2 : Hid (∀ y, e2 = some y → ¬ y.block = gb) := Lib.hid (fun y e c => by have := (z2.out y e); have h9 := rB.lt; omega)
          replace rB := Below.row' hba rB
          refine hK.out _ _ (hS4.out _ hb3) (fun hHx => ?_)
          clear hK K hba hHx H69 hb2
          try simp only [List.getElem_toArray, List.getElem_cons_succ, List.getElem_cons_zero, Act.put, List.setIfInBounds_toArray, List.set_cons_zero, List.set_cons_succ]
          have zc0 := rB.cell (i := 0) (by omega)
          have zc1 := rB.cell (i := 1) (by omega)
          have zf0 := rB.frozen 0
          have zf1 := rB.frozen 1
          have hbV : Below w5.heap.size w5 ((Y3.setCell ⟨gb, 0, none⟩ (.slice e1 N f1)).setCell ⟨gb, 1, none⟩ (.slice e2 N f2)) := (hb3.setCell (p := ⟨gb, 0, none⟩) hgb _).setCell (p := ⟨gb, 1, none⟩) hgb _
          have hbt : But (fun k => k = gb) Y3 ((Y3.setCell ⟨gb, 0, none⟩ (.slice e1 N f1)).setCell ⟨gb, 1, none⟩ (.slice e2 N f2)) := ((But.refl (fun k => k = gb) Y3).setCell (p := ⟨gb, 0, none⟩) (.inr rfl) _).setCell (p := ⟨gb, 1, none⟩) (.inr rfl) _
          have n1' : Hid (NsAt ((Y3.setCell ⟨gb, 0, none⟩ (.slice e1 N f1)).setCell ⟨gb, 1, none⟩ (.slice e2 N f2)) e1 ((List.range N).map fun x => (Pl.rLst s G x : Int))) := Lib.hid (ns_but n1.out hbt (fun y e => q1.out y e))
          have n2' : Hid (NsAt ((Y3.setCell ⟨gb, 0, none⟩ (.slice e1 N f1)).setCell ⟨gb, 1, none⟩ (.slice e2 N f2)) e2 ((List.range N).map fun x => Pl.rWay s G x)) := Lib.hid (ns_but n2.out hbt (fun y e => q2.out y e))
          have y0 : Hid (((Y3.setCell ⟨gb, 0, none⟩ (.slice e1 N f1)).setCell ⟨gb, 1, none⟩ (.slice e2 N f2)).cell? ⟨gb, 0, none⟩ = some (.slice e1 N f1)) := Lib.hid (by simp [go_sem, zc0])
          have y1 : Hid (((Y3.setCell ⟨gb, 0, none⟩ (.slice e1 N f1)).setCell ⟨gb, 1, none⟩ (.slice e2 N f2)).cell? ⟨gb, 1, none⟩ = some (.slice e2 N f2)) := Lib.hid (by simp [go_sem, zc1])
          refine wpAnyH_ready (rs := [7]) (by kernel_rfl) (by simp) ?_
          refine AllReadyH.cons rfl (fun K hK => ?_) ?_
          rotate_left 1
          · exact AllReadyH.nil
          go_simp
          refine hK.out _ _ (hS4.out _ hbV) (fun hHx => ?_)
          clear hK K hHx rB zf0 zf1 zc0 zc1 hbt
          try simp only [List.getElem_toArray, List.getElem_cons_succ, List.getElem_cons_zero, Act.put, List.setIfInBounds_toArray, List.set_cons_zero, List.set_cons_succ]
          refine wpAnyH_done (by kernel_rfl) ?_ _
          try simp only [List.getElem_toArray, List.getElem_cons_succ, List.getElem_cons_zero, Act.put, List.setIfInBounds_toArray, List.set_cons_zero, List.set_cons_succ]
          replace hbV := Lib.hid hbV
          clear hb3
          go_wp2
          go_meet
          exact ⟨_, _, _, _, _, rfl, y0, y1, n1', n2', hbV⟩
    · skip
      have rB := cl_new Y0
      have hb1 := below_alloc hb0 (Obj.cells #[.slice none 0 0, .slice none 0 0] 44)
      have hba := below_alloc (Below.refl Y0.heap.size Y0) (Obj.cells #[.slice none 0 0, .slice none 0 0] 44)
      have hgb : w5.heap.size ≤ Y0.heap.size := hb0.size
      go_simp
      refine hK.out _ _ (hS4.out _ hb1) (fun hHx => ?_)
      clear hK K hba hHx hb0
      generalize Y0.alloc (Obj.cells #[.slice none 0 0, .slice none 0 0] 44) = Y1 at *
      generalize Y0.heap.size = gb at *
      try simp only [List.getElem_toArray, List.getElem_cons_succ, List.getElem_cons_zero, Act.put, List.setIfInBounds_toArray, List.set_cons_zero, List.set_cons_succ]
      refine wpAnyH_ready (rs := [4]) (by kernel_rfl) (by simp) ?_
      refine AllReadyH.cons rfl (fun K hK => ?_) (AllReadyH.nil)
      · skip
        have H59 := Lib.hid (H5.out _ (hX.trans (hb1.mono hX.size)))
        go_simp
        with_reducible refine (H59.out).mono ?_
        rintro e Y2 ⟨v, he, hO⟩
        subst he
        obtain ⟨ga, gc, rfl, hGs⟩ := hO.out.at
        replace hGs := Lib.hid hGs
        have hba := hO.out.b
        have hb2 := hb1.trans (hba.mono hb1.size)
        replace rB := Below.row' hba rB
        refine hK.out _ _ (hS4.out _ hb2) (fun hHx => ?_)
        clear hK K hba hHx hO H59 hb1
        try simp only [List.getElem_toArray, List.getElem_cons_succ, List.getElem_cons_zero, Act.put, List.setIfInBounds_toArray, List.set_cons_zero, List.set_cons_succ]
        refine wpAnyH_ready (rs := [5]) (by kernel_rfl) (by simp) ?_
        refine AllReadyH.cons rfl (fun K hK => ?_) (AllReadyH.nil)
        · skip
          have H69 := Lib.hid (H6.out ga G.length gc rfl Y2 hGs)
          go_simp
          with_reducible refine (H69.out).mono ?_
          rintro e Y3 ⟨e1, f1, e2, f2, he, n1, n2, z1, z2, hba⟩
          subst he
          have hb3 := hb2.trans (hba.mono hb2.size)
          have q1 : Hid (∀ y, e1 = some y → ¬ y.block = gb) := Lib.hid (fun y e c => by have := (z1.out y e); have h9 := rB.lt; omega)
          have q2 : Hid (∀ y, e2 = some y → ¬ y.block = gb) := Lib.hid (fun y e c => by have := (z2.out y e); have h9 := rB.lt; omega)
          replace rB := Below.row' hba rB
          refine hK.out _ _ (hS4.out _ hb3) (fun hHx => ?_)
          clear hK K hba hHx H69 hb2
          try simp only [List.getElem_toArray, List.getElem_cons_succ, List.getElem_cons_zero, Act.put, List.setIfInBounds_toArray, List.set_cons_zero, List.set_cons_succ]
          have zc0 := rB.cell (i := 0) (by omega)
          have zc1 := rB.cell (i := 1) (by omega)
          have zf0 := rB.frozen 0
          have zf1 := rB.frozen 1
          have hbV : Below w5.heap.size w5 ((Y3.setCell ⟨gb, 0, none⟩ (.slice e1 N f1)).setCell ⟨gb, 1, none⟩ (.slice e2 N f2)) := (hb3.setCell (p := ⟨gb, 0, none⟩) hgb _).setCell (p := ⟨gb, 1, none⟩) hgb _
          have hbt : But (fun k => k = gb) Y3 ((Y3.setCell ⟨gb, 0, none⟩ (.slice e1 N f1)).setCell ⟨gb, 1, none⟩ (.slice e2 N f2)) := ((But.refl (fun k => k = gb) Y3).setCell (p := ⟨gb, 0, none⟩) (.inr rfl) _).setCell (p := ⟨gb, 1, none⟩) (.inr rfl) _
          have n1' : Hid (NsAt ((Y3.setCell ⟨gb, 0, none⟩ (.slice e1 N f1)).setCell ⟨gb, 1, none⟩ (.slice e2 N f2)) e1 ((List.range N).map fun x => (Pl.rLst s G x : Int))) := Lib.hid (ns_but n1.out hbt (fun y e => q1.out y e))
          have n2' : Hid (NsAt ((Y3.setCell ⟨gb, 0, none⟩ (.slice e1 N f1)).setCell ⟨gb, 1, none⟩ (.slice e2 N f2)) e2 ((List.range N).map fun x => Pl.rWay s G x)) := Lib.hid (ns_but n2.out hbt (fun y e => q2.out y e))
          have y0 : Hid (((Y3.setCell ⟨gb, 0, none⟩ (.slice e1 N f1)).setCell ⟨gb, 1, none⟩ (.slice e2 N f2)).cell? ⟨gb, 0, none⟩ = some (.slice e1 N f1)) := Lib.hid (by simp [go_sem, zc0])
          have y1 : Hid (((Y3.setCell ⟨gb, 0, none⟩ (.slice e1 N f1)).setCell ⟨gb, 1, none⟩ (.slice e2 N f2)).cell? ⟨gb, 1, none⟩ = some (.slice e2 N f2)) := Lib.hid (by simp [go_sem, zc1])
          refine wpAnyH_ready (rs := [7]) (by kernel_rfl) (by simp) ?_
          refine AllReadyH.cons rfl (fun K hK => ?_) ?_
          rotate_left 1
          · exact AllReadyH.nil
          go_simp
          refine hK.out _ _ (hS4.out _ hbV) (fun hHx => ?_)
          clear hK K hHx rB zf0 zf1 zc0 zc1 hbt
          try simp only [List.getElem_toArray, List.getElem_cons_succ, List.getElem_cons_zero, Act.put, List.setIfInBounds_toArray, List.set_cons_zero, List.set_cons_succ]
          refine wpAnyH_done (by kernel_rfl) ?_ _
          try simp only [List.getElem_toArray, List.getElem_cons_succ, List.getElem_cons_zero, Act.put, List.setIfInBounds_toArray, List.set_cons_zero, List.set_cons_succ]
          replace hbV := Lib.hid hbV
          clear hb3
          go_wp2
          go_meet
          exact ⟨_, _, _, _, _, rfl, y0, y1, n1', n2', hbV⟩
  case rest =>
    obtain ⟨gb, e1, f1, e2, f2, rfl, y0, y1, n1, n2, hc⟩ := hcut
    replace y0 := y0.out
    replace y1 := y1.out
    replace hc := hc.out
    replace hX := hX.trans (hc.mono hX.size)
    replace b0 := kept1 b0 hc
    replace b1 := kept1 b1 hc
    replace b2 := kept1 b2 hc
    replace hl1 := Lib.hid (hl1.out.below hc)
    replace hw1 := Lib.hid (hw1.out.below hc)
    clear H5 H6 hc
    generalize wc = V at *
    go_wp2_with fail
    refine (H7.out _ hX).mono ?_
    rintro e w6 ⟨rfl, hb2⟩
    replace hX := hX.trans (hb2.mono hX.size)
    replace y0 := kept1 y0 hb2
    replace y1 := kept1 y1 hb2
    replace hl1 := Lib.hid (hl1.out.below hb2)
    replace hw1 := Lib.hid (hw1.out.below hb2)
    replace n1 := Lib.hid (n1.out.below hb2)
    replace n2 := Lib.hid (n2.out.below hb2)
    clear hb2
    clear H7 b0 b1 b2
    go_wp2_with fail
    refine (HS.out _ hX).mono ?_
    rintro e w7 ⟨rfl, hb2⟩
    replace hX := hX.trans (hb2.mono hX.size)
    replace y0 := kept1 y0 hb2
    replace y1 := kept1 y1 hb2
    replace hl1 := Lib.hid (hl1.out.below hb2)
    replace hw1 := Lib.hid (hw1.out.below hb2)
    replace n1 := Lib.hid (n1.out.below hb2)
    replace n2 := Lib.hid (n2.out.below hb2)
    clear hb2
    have HA := Lib.hid (sameInts_eq (some ⟨lb, 0, none⟩) e1 N cl f1 _ (by simp) (by omega) w7 hl1.out n1.out)
    clear HS
    go_wp2_with fail
    refine (HA.out).mono ?_
    rintro e w8 ⟨rfl, hb2⟩
    replace hX := hX.trans (hb2.mono hX.size)
    replace y0 := kept1 y0 hb2
    replace y1 := kept1 y1 hb2
    replace hw1 := Lib.hid (hw1.out.below hb2)
    replace n2 := Lib.hid (n2.out.below hb2)
    clear hb2
    have HB := Lib.hid (sameInts_eq (some ⟨wb, 0, none⟩) e2 N cw f2 _ (by simp) (by omega) w8 hw1.out n2.out)
    clear HA hl1 n1
    go_wp2_with fail
    refine (HB.out).mono ?_
    rintro e w9 ⟨rfl, hb2⟩
    replace hX := hX.trans (hb2.mono hX.size)
    clear HB hb2 hw1 n2 y0 y1
    go_wp2
    go_ret
    exact ⟨rfl, hX⟩

theorem plateClasses_any (s m : Int) (a : Option Addr) (q cap : Nat) (L : List Pl.Wk) (hq : Hid (L.length = q)) (p : Int) (w : World) (hL : Hid (WksAt w a L)) (hT : Hid (Tab w.heap.size w)) :
    Calls Tryd.prog 4 #[.agg #[.int .i64 s, .int .i64 m, .slice a q cap], .int .i64 p] w (LawPost w) := by
  by_cases h20 : q ≤ 20
  · by_cases hc : Pl.cpl s m L p = 0
    · have hv := (Pl.chk_ok (Pl.cpl_ok hc).1).1
      obtain ⟨s', rfl⟩ : ∃ s' : Nat, s = s' := ⟨s.toNat, by omega⟩
      exact classes_ok s' m a q cap L hq p w hL hT h20 (Lib.hid (Pl.vs_of hc))
    · exact classes_bad s m a q cap L hq p w hL hT h20 _ (Lib.hid rfl) hc
  · exact classes_wide s m a q cap L hq p w hL hT h20

/-- the law, its arguments in the frame's order -/
theorem plateClasses_true (w : World) (s m : Int) (a : Option Addr) (q cap : Nat) (L : List Pl.Wk) (hq : Hid (L.length = q)) (hL : Hid (WksAt w a L)) (p : Int) (hT : Hid (Tab w.heap.size w)) :
    Calls Tryd.prog 4 #[.agg #[.int .i64 s, .int .i64 m, .slice a q cap], .int .i64 p] w (LawPost w) :=
  plateClasses_any s m a q cap L hq p w hL hT
end Go.Proofs.YtidcedilfhmllaaDoor
