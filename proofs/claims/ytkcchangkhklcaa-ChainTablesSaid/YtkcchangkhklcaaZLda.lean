/- The law ChainTables: walked where Greatest is there and Least is there. -/
import Derived.Test.YtkcchangkhklcaaZLdh
set_option linter.unusedSimpArgs false
set_option linter.unusedVariables false
namespace Go.Proofs.Ytkcchangkhklcaa
open Go.RowKit

set_option linter.unusedSimpArgs false in
set_option maxRecDepth 100000 in
set_option maxHeartbeats 16000000 in
theorem tables_a (n : Int) (a : Option Addr) (m cap : Nat) (L : List Ch.Lk) (hm : Hid (L.length = m)) (hsm : Hid ((decide (m ≤ 310) && decide (n ≤ 70)) = true)) (k : Nat) (hT : Ch.ET n L k) (ho : Ch.opn n L [] k = 0) (hg : Ch.hiK (Ch.tb n L k) n.toNat = 0) (hh : Ch.loK (Ch.tb n L k) n.toNat = 0) (w : World) (hL : Hid (LksAt w a L)) :
    Calls Try.prog 5 #[sysV n a m cap] w (LawPost w) := by
  obtain ⟨i0, hi, hz0, hz1, hz2⟩ := info_parts infoInt
  have HSm := Lib.hid fun (W : World) => small_any n a m cap true hsm W
  have HSa := Lib.hid fun (W : World) => sanity_any W
  have hck := (Ch.opn_ok ho).1
  have hyes := hT.en.cons hck (Ch.opn_ok ho).2.2
  obtain ⟨n1, n2, _⟩ := Ch.check_ok hck
  obtain ⟨_, _, hTB⟩ := Ch.tb_of hT.en ho
  have hge := hT.greatE ho
  have hgw := hT.great_w ho
  have hlw := hT.least_w ho
  have hgl := hT.great_list ho
  have hll := hT.least_list ho
  have hft : ∀ u v, u < n.toNat → v < n.toNat → Ch.fyT n.toNat L u v = Ch.tb n L k u v := fun u v hu hv => Ch.fyT_tb hT.en ho hu hv
  have HTi := Lib.hid fun (W : World) (h : SB w n a m cap L W) => tight_any n a cap L k hT.en.en W h.l
  have HSp := Lib.hid fun (W : World) (h : SB w n a m cap L W) => spans_any n a cap L k hT.en.en hT.en2.en (fun _ => hge) W h.l
  have HGr := Lib.hid fun (W : World) (h : SB w n a m cap L W) => greatestW_any n (by omega) a cap L k hT.en2.en (Ch.great_len hT.en2.en) W h.l
  have HLe := Lib.hid fun (W : World) (h : SB w n a m cap L W) => leastW_any n (by omega) a cap L k hT.en.en (Ch.least_len hT.en.en) W h.l
  have HAs := Lib.hid fun (W : World) (h : SB w n a m cap L W) => asked_any n a m cap L hm 0 0 k hT.en W (Lib.hid h.l)
  have HRt := Lib.hid fun (W : World) (h : SB w n a m cap L W) => rtight_any n a m cap L hm hck W (Lib.hid h.l)
  have ed : tightB n L k = Ch.tb n L k := rfl
  rw [ho, ed] at HTi
  rw [ho] at HSp
  rw [Ch.opn_zero, ho] at HAs
  rw [hg] at hgw
  rw [hh] at hlw
  rw [if_pos rfl] at hgw
  rw [if_pos rfl] at hlw
  rw [hgw] at HGr
  rw [hlw] at HLe
  rw [hgl, hll] at HSp
  rw [hm.out] at HTi HSp HGr HLe
  obtain ⟨D, hD⟩ : ∃ D, Ch.tb n L k = D := ⟨_, rfl⟩
  rw [hD] at HTi hTB hft HSp hg hh HGr HLe
  obtain ⟨N, rfl⟩ : ∃ N : Nat, n = (N : Int) := ⟨n.toNat, by omega⟩
  simp only [Int.toNat_natCast] at *
  replace hTB := Lib.hid hTB
  replace hft := Lib.hid hft
  replace hyes := Lib.hid hyes
  replace hg := Lib.hid hg
  replace hh := Lib.hid hh
  have hNN : ((N : Int) == (N : Int)) = true := by simp
  unfold sysV at *
  clear hck hge hgw hlw hgl hll ed hD hT ho
  go_enter Try.func5, Try.ntmps5
  go_wp2_with fail
  refine (HSm.out _).mono ?_
  rintro e w1 ⟨rfl, hb⟩
  have hB1 := bstep1 (Below.refl _ _) hb
  have hJ1 := Lib.hid (SB.mk (w := w) (n := (N : Int)) (a := a) (m := m) (cap := cap) (W := w1) (kept1 (by simp [go_sem]) hb) (kept1 (by simp [go_sem]) hb) (hL.out.below hB1) hB1)
  clear hb hB1 HSm hsm hL
  have k0 := hJ1.out.c0
  have k1 := hJ1.out.c1
  go_wp2_with fail
  refine (HTi.out _ hJ1.out).mono ?_
  rintro e w2 ⟨hb, h⟩
  obtain ⟨_, ob, S0, _, hlt, rfl, ho1, hr1⟩ := h.resolve_left (fun h => h.1 rfl)
  have hJ2 := Lib.hid (hJ1.out.below hb)
  have hT2 := Lib.hid ((TBL.mk (D := D) ho1 hr1).two hlt)
  clear hb k0 k1 hJ1 HTi h ho1 hr1 hlt
  have k0 := hJ2.out.c0
  have k1 := hJ2.out.c1
  go_wp2_with fail
  refine (HSp.out _ hJ2.out).mono ?_
  rintro e w3 ⟨hb, h⟩
  obtain ⟨_, pb, _, rfl, hr1⟩ := h.resolve_left (fun h => h.1 rfl)
  have hJ3 := Lib.hid (hJ2.out.below hb)
  have hT3 := Lib.hid (hT2.out.below hb)
  have hP3 := Lib.hid hr1
  clear hb k0 k1 hJ2 hT2 HSp h hr1
  have k0 := hJ3.out.c0
  have k1 := hJ3.out.c1
  go_wp2_with fail
  refine (HGr.out _ hJ3.out).mono ?_
  rintro e w4 ⟨hb, h⟩
  obtain ⟨_, xb, f, _, rfl, hr1, hf1⟩ := h.resolve_left (fun h => h.1 rfl)
  have hJ4 := Lib.hid (hJ3.out.below hb)
  have hT4 := Lib.hid (hT3.out.below hb)
  have hP4 := Lib.hid (Below.row hb hP3.out)
  have hX4 : Hid (w4.rowIs xb 3 N (fun i => .int .i64 ((Ch.upK D N).getD i 0))) := Lib.hid (hr1.congr (fun i hi => hf1 i hi))
  clear hb k0 k1 hJ3 hT3 hP3 HGr h hr1 hf1
  have k0 := hJ4.out.c0
  have k1 := hJ4.out.c1
  go_wp2_with fail
  refine (HLe.out _ hJ4.out).mono ?_
  rintro e w5 ⟨hb, h⟩
  obtain ⟨_, yb, f, _, rfl, hr1, hf1⟩ := h.resolve_left (fun h => h.1 rfl)
  have hJ5 := Lib.hid (hJ4.out.below hb)
  have hT5 := Lib.hid (hT4.out.below hb)
  have hP5 := Lib.hid (Below.row hb hP4.out)
  have hX5 := Lib.hid (Below.row hb hX4.out)
  have hY5 : Hid (w5.rowIs yb 3 N (fun i => .int .i64 ((Ch.dnK D N).getD i 0))) := Lib.hid (hr1.congr (fun i hi => hf1 i hi))
  clear hb k0 k1 hJ4 hT4 hP4 hX4 HLe h hr1 hf1
  have k0 := hJ5.out.c0
  have k1 := hJ5.out.c1
  go_wp2_with fail
  refine (HAs.out _ hJ5.out).mono ?_
  rintro e w6 ⟨rfl, hb⟩
  have hJ6 := Lib.hid (hJ5.out.below hb)
  have hT6 := Lib.hid (hT5.out.below hb)
  have hP6 := Lib.hid (Below.row hb hP5.out)
  have hX6 := Lib.hid (Below.row hb hX5.out)
  have hY6 := Lib.hid (Below.row hb hY5.out)
  clear hb k0 k1 hJ5 hT5 hP5 hX5 hY5 HAs
  have k0 := hJ6.out.c0
  have k1 := hJ6.out.c1
  go_wp2_with fail
  refine (HRt.out _ hJ6.out).mono ?_
  rintro e w7 ⟨hb, h⟩
  obtain ⟨_, ob2, dc, R2, rfl, ht⟩ := h.resolve_left (fun h => h.1 hyes.out)
  have hJ7 := Lib.hid (hJ6.out.below hb)
  have hT7 := Lib.hid (hT6.out.below hb)
  have hP7 := Lib.hid (Below.row hb hP6.out)
  have hX7 := Lib.hid (Below.row hb hX6.out)
  have hY7 := Lib.hid (Below.row hb hY6.out)
  have hU7 := Lib.hid (ht.congr (fun u v hu hv => hft.out u v hu hv))
  clear hb k0 k1 hJ6 hT6 hP6 hX6 hY6 HRt h ht hyes hft
  have hLP := Lib.hid (LP.mk (w := w7) (W := w7) (cv := .slice none 0 0) (dv := .slice none 0 0) (us := []) (ds := []) (World.ownsRow_nil _ _ _ _) (World.ownsRow_nil _ _ _ _) (fun g h _ => by cases h) (Below.refl _ _))
  go_wp2
  go_loopw [18, 14, 15, 16, 17] (fun i cv dv hi lo wr => ∃ (j : Nat) (cw dw : Value), j ≤ N ∧ i = .int .i64 j ∧ cw = cv ∧ dw = dv ∧ hi = .int .i64 (Ch.hiK D j) ∧ lo = .int .i64 (Ch.loK D j) ∧ Hid (LP w7 wr cw dw (Ch.upK D j) (Ch.dnK D j))) (fun i _ _ _ _ _ => N - (RowKit.intOf i).toNat)
  case atStart => exact ⟨0, _, _, Nat.zero_le _, rfl, rfl, rfl, rfl, rfl, hLP⟩
  case round =>
    clear hLP
    obtain ⟨j, cw, dw, hj, rfl, rfl, rfl, rfl, rfl, HI⟩ := hrel
    have k0 := kept1 hJ7.out.c0 HI.out.b
    by_cases hlt : j < N
    · have hi5 : (j : Int) < (N : Int) := by omega
      have hi6 : (0 : Int) ≤ (j : Int) := by omega
      have hN0 : (0 : Int) < (N : Int) := by omega
      obtain ⟨a1, a2⟩ := hTB.out.range (u := 0) (v := j) (by omega) hlt
      obtain ⟨b1, b2⟩ := hTB.out.range (u := j) (v := 0) hlt (by omega)
      have d1 := (hU7.out.below HI.out.b).o j hlt
      have d2 := (hU7.out.below HI.out.b).get (u := j) (v := 0) hlt (by omega)
      have d3 := (hU7.out.below HI.out.b).o 0 (by omega)
      have d4 := (hU7.out.below HI.out.b).get (u := 0) (v := j) (by omega) hlt
      have p0 := (Below.row HI.out.b hP7.out).cell (i := j * 2) (by omega)
      have p1 := (Below.row HI.out.b hP7.out).cell (i := j * 2 + 1) (by omega)
      rw [sp_lo hlt, Ch.dnK_at hlt] at p0
      rw [sp_hi hlt, Ch.upK_at hlt] at p1
      have hun := Ch.upK_next D j
      have hdn := Ch.dnK_next D j
      have hhn := Ch.hiK_next D j
      have hln := Ch.loK_next D j
      obtain ⟨x, hx⟩ : ∃ x, D 0 j = x := ⟨_, rfl⟩
      obtain ⟨y, hy⟩ : ∃ y, D j 0 = y := ⟨_, rfl⟩
      rw [hx] at a1 a2 d4 p1 hun hhn
      rw [hy] at b1 b2 d2 p0 hdn hln
      have hw1 : IntKind.i64.wrap (-y) = -y := wrap_ok (by omega) (by omega)
      have hul := Ch.upK_len D j
      have hdl := Ch.dnK_len D j
      have hsz := HI.out.b.size
      obtain ⟨hk, hhk⟩ : ∃ z, Ch.hiK D j = z := ⟨_, rfl⟩
      obtain ⟨lk, hlk⟩ : ∃ z, Ch.loK D j = z := ⟨_, rfl⟩
      obtain ⟨hk2, hhk2⟩ : ∃ z, Ch.hiK D (j + 1) = z := ⟨_, rfl⟩
      obtain ⟨lk2, hlk2⟩ : ∃ z, Ch.loK D (j + 1) = z := ⟨_, rfl⟩
      rw [hhk, hhk2] at hhn
      rw [hlk, hlk2] at hln
      rw [hhk, hlk]
      replace hhk2 := Lib.hid hhk2
      replace hlk2 := Lib.hid hlk2
      replace hun := Lib.hid hun
      replace hdn := Lib.hid hdn
      replace hhn := Lib.hid hhn
      replace hln := Lib.hid hln
      replace hul := Lib.hid hul
      replace hdl := Lib.hid hdl
      have hN1 : 0 < N := by omega
      have z0 : (wr.alloc (Obj.cells #[.int .i64 0, .int .i64 0] 53)).cell? ⟨wr.heap.size, 0, none⟩ = some (.int .i64 0) := by simp [go_sem]
      have z1 : (wr.alloc (Obj.cells #[.int .i64 0, .int .i64 0] 53)).cell? ⟨wr.heap.size, 1, none⟩ = some (.int .i64 0) := by simp [go_sem]
      have e1 := cell_alloc d1 (Obj.cells #[.int .i64 0, .int .i64 0] 53)
      have e2 := cell_alloc d2 (Obj.cells #[.int .i64 0, .int .i64 0] 53)
      have e3 := cell_alloc d3 (Obj.cells #[.int .i64 0, .int .i64 0] 53)
      have e4 := cell_alloc d4 (Obj.cells #[.int .i64 0, .int .i64 0] 53)
      clear hhk hlk
      have HX := Lib.hid (HI.out.below9 ((Below.refl wr.heap.size wr).alloc (Nat.le_refl _) (Obj.cells #[.int .i64 (-y), .int .i64 x] 53)))
      have q0 : (wr.alloc (Obj.cells #[.int .i64 (-y), .int .i64 x] 53)).cell? ⟨wr.heap.size, 0, none⟩ = some (.int .i64 (-y)) := by simp [go_sem]
      have q1 : (wr.alloc (Obj.cells #[.int .i64 (-y), .int .i64 x] 53)).cell? ⟨wr.heap.size, 1, none⟩ = some (.int .i64 x) := by simp [go_sem]
      have g0 := cell_alloc p0 (Obj.cells #[.int .i64 (-y), .int .i64 x] 53)
      have g1 := cell_alloc p1 (Obj.cells #[.int .i64 (-y), .int .i64 x] 53)
      have hZ : (wr.alloc (Obj.cells #[.int .i64 (-y), .int .i64 x] 53)).heap.size = wr.heap.size + 1 := by simp
      replace hx := Lib.hid hx
      replace hy := Lib.hid hy
      clear HI p0 p1
      go_upto_region 20 with fail
      go_region
      clear z0 z1 e1 e2 e3 e4 k0 d1 d2 d3 d4 hw1
      generalize wr.alloc (Obj.cells #[.int .i64 (-y), .int .i64 x] 53) = X at *
      generalize wr.heap.size = qb at *
      have hne := run_neq_sp (-y) x (-y) x
      rw [show ((-y == -y && x == x) = true) by simp, Bool.not_true] at hne
      have hgd := sp_guard
      have hdc : decide ((N : Int) ≤ (j : Int)) = false := decide_eq_false (by omega)
      have hdn9 : ¬ N ≤ j := by omega
      have hdc2 : decide (N ≤ j) = false := decide_eq_false hdn9
      have T9 := Lib.hid fun nq => HX.out.below9 (below_drewN (Below.refl X.heap.size X).drew nq)
      clear HX
      go_upto_region 21 with fail
      go_quiet (fail)
      have HI := Lib.hid (T9.out nq)
      clear T9 hne hgd q0 q1 g0 g1 hdc hdn9 hdc2 hZ
      generalize X.drew.drewN nq = W at *
      have hsz := HI.out.b.size
      have d1 := (hU7.out.below HI.out.b).o j hlt
      have d2 := (hU7.out.below HI.out.b).get (u := j) (v := 0) hlt (by omega)
      have d3 := (hU7.out.below HI.out.b).o 0 (by omega)
      have d4 := (hU7.out.below HI.out.b).get (u := 0) (v := j) (by omega) hlt
      have k0 := kept1 hJ7.out.c0 HI.out.b
      rw [hx.out] at d4
      rw [hy.out] at d2
      by_cases hxf : x = 1152921504606846976
      · by_cases hyf : y = 1152921504606846976
        · subst hxf
          subst hyf
          have hA : hk2 = 5 := by rw [hhn.out, if_pos rfl]
          have hB : lk2 = 5 := by rw [hln.out, if_pos rfl]
          replace hA := Lib.hid hA
          replace hB := Lib.hid hB
          have hown1 := HI.out.o1
          go_wp2_with (first
            | (at_builtin; refine wpList_append_lies _ rfl (.tmp 132) (.tmp 139) 32 rfl w7.heap.size 3 i0 (.int .i64 0) 1 8 Try.underlying32 hi hz0 hz1 hz2 rfl (by decide) _ _ _ rfl (hown1.alloc _) ⟨W.heap.size, 0, none⟩ 1 1 [.int .i64 1152921504606846976] rfl rfl (World.news_of_block (cs := #[.int .i64 1152921504606846976]) (t := 3) (fr := (0, 0)) (heap_alloc_new W _)) (by simp [Value.oneCell']) (by omega) (by have := hul.out; unfold maxLen; omega) (by have := hul.out; omega) (by simp; omega) (W.heap.size + 1) (by simp) ?_)
            | fail)
          intro g1 cp1 W1 hown' hgrow hat hlt9
          have HI2 := Lib.hid (HI.out.push9 _ hown' hgrow rfl hat)
          clear hown1 hown' hgrow hat hlt9 HI d1 d2 d3 d4 k0 hsz
          have hsz := HI2.out.b.size
          have d1 := (hU7.out.below HI2.out.b).o j hlt
          have d2 := (hU7.out.below HI2.out.b).get (u := j) (v := 0) hlt (by omega)
          rw [hy.out] at d2
          have hw1 : IntKind.i64.wrap (-1152921504606846976) = -1152921504606846976 := wrap_ok (by omega) (by omega)
          have hown1 := HI2.out.o2
          go_wp2_with (first
            | (at_builtin; refine wpList_append_lies _ rfl (.tmp 141) (.tmp 149) 32 rfl w7.heap.size 3 i0 (.int .i64 0) 1 8 Try.underlying32 hi hz0 hz1 hz2 rfl (by decide) _ _ _ rfl (hown1.alloc _) ⟨W1.heap.size, 0, none⟩ 1 1 [.int .i64 (-1152921504606846976)] rfl rfl (World.news_of_block (cs := #[.int .i64 (-1152921504606846976)]) (t := 3) (fr := (0, 0)) (heap_alloc_new W1 _)) (by simp [Value.oneCell']) (by omega) (by have := hdl.out; unfold maxLen; omega) (by have := hdl.out; omega) (by simp; omega) (W1.heap.size + 1) (by simp) ?_)
            | fail)
          intro g2 cp2 W2 hown' hgrow hat hlt9
          have HI3 := Lib.hid ((HI2.out.swap.push9 _ hown' hgrow rfl hat).swap)
          clear hown1 hown' hgrow hat hlt9 HI2 d1 d2 hsz
          have k0 := kept1 hJ7.out.c0 HI3.out.b
          go_wp2
          go_roundw
          case rel => exact ⟨j + 1, _, _, by omega, by go_num, rfl, rfl, by rw [hhk2.out, hA.out], by rw [hlk2.out, hB.out], Lib.hid (by rw [hun.out, hdn.out]; exact HI3.out)⟩
          case measure => show N - ((j : Int) + 1).toNat < N - (j : Int).toNat; omega
        · subst hxf
          have hy9 : (y == 1152921504606846976) = false := by rw [beq_eq_false_iff_ne]; exact hyf
          have hA : hk2 = 5 := by rw [hhn.out, if_pos rfl]
          have hB : lk2 = lk := by rw [hln.out, if_neg hyf]
          replace hA := Lib.hid hA
          replace hB := Lib.hid hB
          have hown1 := HI.out.o1
          go_wp2_with (first
            | (at_builtin; refine wpList_append_lies _ rfl (.tmp 132) (.tmp 139) 32 rfl w7.heap.size 3 i0 (.int .i64 0) 1 8 Try.underlying32 hi hz0 hz1 hz2 rfl (by decide) _ _ _ rfl (hown1.alloc _) ⟨W.heap.size, 0, none⟩ 1 1 [.int .i64 1152921504606846976] rfl rfl (World.news_of_block (cs := #[.int .i64 1152921504606846976]) (t := 3) (fr := (0, 0)) (heap_alloc_new W _)) (by simp [Value.oneCell']) (by omega) (by have := hul.out; unfold maxLen; omega) (by have := hul.out; omega) (by simp; omega) (W.heap.size + 1) (by simp) ?_)
            | fail)
          intro g1 cp1 W1 hown' hgrow hat hlt9
          have HI2 := Lib.hid (HI.out.push9 _ hown' hgrow rfl hat)
          clear hown1 hown' hgrow hat hlt9 HI d1 d2 d3 d4 k0 hsz
          have hsz := HI2.out.b.size
          have d1 := (hU7.out.below HI2.out.b).o j hlt
          have d2 := (hU7.out.below HI2.out.b).get (u := j) (v := 0) hlt (by omega)
          rw [hy.out] at d2
          have hw1 : IntKind.i64.wrap (-y) = -y := wrap_ok (by omega) (by omega)
          have hown1 := HI2.out.o2
          go_wp2_with (first
            | (at_builtin; refine wpList_append_lies _ rfl (.tmp 141) (.tmp 149) 32 rfl w7.heap.size 3 i0 (.int .i64 0) 1 8 Try.underlying32 hi hz0 hz1 hz2 rfl (by decide) _ _ _ rfl (hown1.alloc _) ⟨W1.heap.size, 0, none⟩ 1 1 [.int .i64 (-y)] rfl rfl (World.news_of_block (cs := #[.int .i64 (-y)]) (t := 3) (fr := (0, 0)) (heap_alloc_new W1 _)) (by simp [Value.oneCell']) (by omega) (by have := hdl.out; unfold maxLen; omega) (by have := hdl.out; omega) (by simp; omega) (W1.heap.size + 1) (by simp) ?_)
            | fail)
          intro g2 cp2 W2 hown' hgrow hat hlt9
          have HI3 := Lib.hid ((HI2.out.swap.push9 _ hown' hgrow rfl hat).swap)
          clear hown1 hown' hgrow hat hlt9 HI2 d1 d2 hsz
          have k0 := kept1 hJ7.out.c0 HI3.out.b
          go_wp2
          go_roundw
          case rel => exact ⟨j + 1, _, _, by omega, by go_num, rfl, rfl, by rw [hhk2.out, hA.out], by rw [hlk2.out, hB.out], Lib.hid (by rw [hun.out, hdn.out]; exact HI3.out)⟩
          case measure => show N - ((j : Int) + 1).toNat < N - (j : Int).toNat; omega
      · by_cases hyf : y = 1152921504606846976
        · have hx9 : (x == 1152921504606846976) = false := by rw [beq_eq_false_iff_ne]; exact hxf
          subst hyf
          have hA : hk2 = hk := by rw [hhn.out, if_neg hxf]
          have hB : lk2 = 5 := by rw [hln.out, if_pos rfl]
          replace hA := Lib.hid hA
          replace hB := Lib.hid hB
          have hown1 := HI.out.o1
          go_wp2_with (first
            | (at_builtin; refine wpList_append_lies _ rfl (.tmp 132) (.tmp 139) 32 rfl w7.heap.size 3 i0 (.int .i64 0) 1 8 Try.underlying32 hi hz0 hz1 hz2 rfl (by decide) _ _ _ rfl (hown1.alloc _) ⟨W.heap.size, 0, none⟩ 1 1 [.int .i64 x] rfl rfl (World.news_of_block (cs := #[.int .i64 x]) (t := 3) (fr := (0, 0)) (heap_alloc_new W _)) (by simp [Value.oneCell']) (by omega) (by have := hul.out; unfold maxLen; omega) (by have := hul.out; omega) (by simp; omega) (W.heap.size + 1) (by simp) ?_)
            | fail)
          intro g1 cp1 W1 hown' hgrow hat hlt9
          have HI2 := Lib.hid (HI.out.push9 _ hown' hgrow rfl hat)
          clear hown1 hown' hgrow hat hlt9 HI d1 d2 d3 d4 k0 hsz
          have hsz := HI2.out.b.size
          have d1 := (hU7.out.below HI2.out.b).o j hlt
          have d2 := (hU7.out.below HI2.out.b).get (u := j) (v := 0) hlt (by omega)
          rw [hy.out] at d2
          have hw1 : IntKind.i64.wrap (-1152921504606846976) = -1152921504606846976 := wrap_ok (by omega) (by omega)
          have hown1 := HI2.out.o2
          go_wp2_with (first
            | (at_builtin; refine wpList_append_lies _ rfl (.tmp 141) (.tmp 149) 32 rfl w7.heap.size 3 i0 (.int .i64 0) 1 8 Try.underlying32 hi hz0 hz1 hz2 rfl (by decide) _ _ _ rfl (hown1.alloc _) ⟨W1.heap.size, 0, none⟩ 1 1 [.int .i64 (-1152921504606846976)] rfl rfl (World.news_of_block (cs := #[.int .i64 (-1152921504606846976)]) (t := 3) (fr := (0, 0)) (heap_alloc_new W1 _)) (by simp [Value.oneCell']) (by omega) (by have := hdl.out; unfold maxLen; omega) (by have := hdl.out; omega) (by simp; omega) (W1.heap.size + 1) (by simp) ?_)
            | fail)
          intro g2 cp2 W2 hown' hgrow hat hlt9
          have HI3 := Lib.hid ((HI2.out.swap.push9 _ hown' hgrow rfl hat).swap)
          clear hown1 hown' hgrow hat hlt9 HI2 d1 d2 hsz
          have k0 := kept1 hJ7.out.c0 HI3.out.b
          go_wp2
          go_roundw
          case rel => exact ⟨j + 1, _, _, by omega, by go_num, rfl, rfl, by rw [hhk2.out, hA.out], by rw [hlk2.out, hB.out], Lib.hid (by rw [hun.out, hdn.out]; exact HI3.out)⟩
          case measure => show N - ((j : Int) + 1).toNat < N - (j : Int).toNat; omega
        · have hx9 : (x == 1152921504606846976) = false := by rw [beq_eq_false_iff_ne]; exact hxf
          have hy9 : (y == 1152921504606846976) = false := by rw [beq_eq_false_iff_ne]; exact hyf
          have hA : hk2 = hk := by rw [hhn.out, if_neg hxf]
          have hB : lk2 = lk := by rw [hln.out, if_neg hyf]
          replace hA := Lib.hid hA
          replace hB := Lib.hid hB
          have hown1 := HI.out.o1
          go_wp2_with (first
            | (at_builtin; refine wpList_append_lies _ rfl (.tmp 132) (.tmp 139) 32 rfl w7.heap.size 3 i0 (.int .i64 0) 1 8 Try.underlying32 hi hz0 hz1 hz2 rfl (by decide) _ _ _ rfl (hown1.alloc _) ⟨W.heap.size, 0, none⟩ 1 1 [.int .i64 x] rfl rfl (World.news_of_block (cs := #[.int .i64 x]) (t := 3) (fr := (0, 0)) (heap_alloc_new W _)) (by simp [Value.oneCell']) (by omega) (by have := hul.out; unfold maxLen; omega) (by have := hul.out; omega) (by simp; omega) (W.heap.size + 1) (by simp) ?_)
            | fail)
          intro g1 cp1 W1 hown' hgrow hat hlt9
          have HI2 := Lib.hid (HI.out.push9 _ hown' hgrow rfl hat)
          clear hown1 hown' hgrow hat hlt9 HI d1 d2 d3 d4 k0 hsz
          have hsz := HI2.out.b.size
          have d1 := (hU7.out.below HI2.out.b).o j hlt
          have d2 := (hU7.out.below HI2.out.b).get (u := j) (v := 0) hlt (by omega)
          rw [hy.out] at d2
          have hw1 : IntKind.i64.wrap (-y) = -y := wrap_ok (by omega) (by omega)
          have hown1 := HI2.out.o2
          go_wp2_with (first
            | (at_builtin; refine wpList_append_lies _ rfl (.tmp 141) (.tmp 149) 32 rfl w7.heap.size 3 i0 (.int .i64 0) 1 8 Try.underlying32 hi hz0 hz1 hz2 rfl (by decide) _ _ _ rfl (hown1.alloc _) ⟨W1.heap.size, 0, none⟩ 1 1 [.int .i64 (-y)] rfl rfl (World.news_of_block (cs := #[.int .i64 (-y)]) (t := 3) (fr := (0, 0)) (heap_alloc_new W1 _)) (by simp [Value.oneCell']) (by omega) (by have := hdl.out; unfold maxLen; omega) (by have := hdl.out; omega) (by simp; omega) (W1.heap.size + 1) (by simp) ?_)
            | fail)
          intro g2 cp2 W2 hown' hgrow hat hlt9
          have HI3 := Lib.hid ((HI2.out.swap.push9 _ hown' hgrow rfl hat).swap)
          clear hown1 hown' hgrow hat hlt9 HI2 d1 d2 hsz
          have k0 := kept1 hJ7.out.c0 HI3.out.b
          go_wp2
          go_roundw
          case rel => exact ⟨j + 1, _, _, by omega, by go_num, rfl, rfl, by rw [hhk2.out, hA.out], by rw [hlk2.out, hB.out], Lib.hid (by rw [hun.out, hdn.out]; exact HI3.out)⟩
          case measure => show N - ((j : Int) + 1).toNat < N - (j : Int).toNat; omega
    · obtain rfl : j = N := by omega
      have hi5 : ¬ (j : Int) < (j : Int) := by omega
      have hg9 := hg.out
      have hh9 := hh.out
      rw [hg9, hh9]
      obtain ⟨p1, c1, rfl, hV⟩ := ints_of_ownZ HI.out.o1
      obtain ⟨p2, c2, rfl, hW⟩ := ints_of_ownZ HI.out.o2
      rw [Ch.upK_len, Ch.dnK_len]
      replace hV := Lib.hid hV
      replace hW := Lib.hid hW
      have hb := HI.out.b
      have hJ8 := Lib.hid (hJ7.out.below hb)
      have hT8 := Lib.hid (hT7.out.below hb)
      have hU8 := Lib.hid (hU7.out.below hb)
      have hX8 := Lib.hid (Below.row hb hX7.out)
      have hY8 := Lib.hid (Below.row hb hY7.out)
      clear hb hg9 hh9 HI
      go_wp2_with fail
      refine (HSa.out _).mono ?_
      rintro e w9 ⟨rfl, hb⟩
      have hJ9 := Lib.hid (hJ8.out.below hb)
      have hT9 := Lib.hid (hT8.out.below hb)
      have hU9 := Lib.hid (hU8.out.below hb)
      have hV9 := Lib.hid (hV.out.below hb)
      have hW9 := Lib.hid (hW.out.below hb)
      have hX9 := Lib.hid (Below.row hb hX8.out)
      have hY9 := Lib.hid (Below.row hb hY8.out)
      clear hb k0 hJ8 hT8 hU8 hV hW hX8 hY8
      have HSt := Lib.hid (sameTable_two j ob ob2 j dc (fun u => S0 + u) R2 (by omega) D D true (Lib.hid ⟨fun _ => rfl, fun _ _ _ _ _ => rfl⟩) w9 hT9 hU9)
      go_wp2_with fail
      refine HSt.out.mono ?_
      rintro e w10 ⟨rfl, hb⟩
      have hJ10 := Lib.hid (hJ9.out.below hb)
      have hV10 := Lib.hid (hV9.out.below hb)
      have hW10 := Lib.hid (hW9.out.below hb)
      have hX10 := Lib.hid (Below.row hb hX9.out)
      have hY10 := Lib.hid (Below.row hb hY9.out)
      have k0 := hJ10.out.c0
      clear hb hJ9 hT9 hU9 hV9 hW9 HSt hX9 hY9
      have HSiX := sameInts_any (some ⟨xb, 0, none⟩) p1 j c1 (Ch.upK D j) (Ch.upK D j) (by rw [Ch.upK_len]; omega) w10 (ints_of_row hX10.out (fun i hi => rfl) (Ch.upK_len D j)) hV10.out
      rw [Ch.upK_len, decide_eq_true rfl] at HSiX
      replace HSiX := Lib.hid HSiX
      go_wp2_with fail
      refine HSiX.out.mono ?_
      rintro e w11 ⟨rfl, hb⟩
      have hJ11 := Lib.hid (hJ10.out.below hb)
      have hY11 := Lib.hid (Below.row hb hY10.out)
      have hW11 := Lib.hid (hW10.out.below hb)
      clear hb k0 HSiX hJ10
      have k0 := hJ11.out.c0
      have HSiY := sameInts_any (some ⟨yb, 0, none⟩) p2 j c2 (Ch.dnK D j) (Ch.dnK D j) (by rw [Ch.dnK_len]; omega) w11 (ints_of_row hY11.out (fun i hi => rfl) (Ch.dnK_len D j)) hW11.out
      rw [Ch.dnK_len, decide_eq_true rfl] at HSiY
      replace HSiY := Lib.hid HSiY
      go_wp2_with fail
      refine HSiY.out.mono ?_
      rintro e w12 ⟨rfl, hb⟩
      have hJ12 := Lib.hid (hJ11.out.below hb)
      clear hb k0 HSiY hJ11
      have k0 := hJ12.out.c0
      have hB := hJ12.out.b
      clear k0 hJ12
      go_wp2
      go_ret
      exact ⟨rfl, hB⟩
end Go.Proofs.Ytkcchangkhklcaa
