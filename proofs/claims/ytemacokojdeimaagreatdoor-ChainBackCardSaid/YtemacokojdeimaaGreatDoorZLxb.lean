/- The law ChainBack: Parse of Print is the system, Print of what Parse returns is the text. Written by wip/tools/genLxb.py. -/
import Derived.Test.YtemacokojdeimaaGreatDoorZLx
set_option linter.unusedSimpArgs false
set_option linter.unusedVariables false
namespace Go.Proofs.YtemacokojdeimaaGreatDoor
open Go.RowKit

theorem back_other (n : Int) (a : Option Addr) (m cap : Nat) (T : ByteArray) (h : (decide (m ≤ 310) && decide (n ≤ 70)) = false ∨ 3000 < T.size) (w : World) :
    Calls Tryz.prog 4 #[sysV n a m cap, .string T] w (LawPost w) := by
  obtain ⟨b, hb⟩ : ∃ b, (decide (m ≤ 310) && decide (n ≤ 70)) = b := ⟨_, rfl⟩
  have HS := Lib.hid fun (W : World) => small_any n a m cap b (Lib.hid hb) W
  unfold sysV at *
  rw [hb] at h
  clear hb
  cases b
  · clear h
    go_enter Tryz.func4, Tryz.ntmps4
    go_wp2_with fail
    refine (HS.out _).mono ?_
    rintro e w1 ⟨rfl, hb1⟩
    have hbw : Below w.heap.size w w1 := (by repeat (first | with_reducible exact Below.refl _ _ | with_reducible assumption | refine below_drewN ?_ _ | refine Below.drew ?_ | refine Below.alloc ?_ (by first | (simp; done) | (simp; omega) | omega) _ | refine Below.setCell ?_ (by first | (simp; done) | (simp; omega) | omega) _ | refine Below.trans ?_ (Below.mono (by assumption) (by first | (simp; done) | (simp; omega) | omega))))
    go_wp2_with fail
    refine (sanity_any w1).mono ?_
    rintro e w2 ⟨rfl, hb2⟩
    go_wp2
    go_ret
    exact ⟨rfl, hbw.trans (hb2.mono hbw.size)⟩
  · have hT : (3000 : Int) < (T.size : Int) := by rcases h with h | h; cases h; omega
    clear h
    go_enter Tryz.func4, Tryz.ntmps4
    go_wp2_with fail
    refine (HS.out _).mono ?_
    rintro e w1 ⟨rfl, hb1⟩
    have hbw : Below w.heap.size w w1 := (by repeat (first | with_reducible exact Below.refl _ _ | with_reducible assumption | refine below_drewN ?_ _ | refine Below.drew ?_ | refine Below.alloc ?_ (by first | (simp; done) | (simp; omega) | omega) _ | refine Below.setCell ?_ (by first | (simp; done) | (simp; omega) | omega) _ | refine Below.trans ?_ (Below.mono (by assumption) (by first | (simp; done) | (simp; omega) | omega))))
    go_wp2_with fail
    refine (sanity_any w1).mono ?_
    rintro e w2 ⟨rfl, hb2⟩
    go_wp2
    go_ret
    exact ⟨rfl, hbw.trans (hb2.mono hbw.size)⟩

set_option maxRecDepth 100000 in
set_option maxHeartbeats 8000000 in
theorem back_main (n : Int) (a : Option Addr) (m cap : Nat) (T : ByteArray) (h : (decide (m ≤ 310) && decide (n ≤ 70)) = true) (hT3 : T.size ≤ 3000) (w : World) (V : Vars w) (hTab : Hid (Tab w.heap.size w)) (L : List Ch.Lk) (hm : L.length = m) (hL : LksAt w a L) :
    Calls Tryz.prog 4 #[sysV n a m cap, .string T] w (LawPost w) := by
  subst hm
  have HS := Lib.hid fun (W : World) => small_any n a L.length cap true (Lib.hid h) W
  clear h
  have V1 : Hid (∀ W : World, Below w.heap.size w W → Nonempty (Vars W)) := Lib.hid fun W hb => ⟨V.on hb⟩
  have hTN : ¬ (3000 : Int) < (T.size : Int) := by omega
  have HPr := Lib.hid fun (W : World) (h : LksAt W a L) (t : Tab W.heap.size W) => print_any n a cap L W (Lib.hid h) (Lib.hid t)
  obtain ⟨P, hP⟩ : ∃ P : ByteArray, (⟨(if (Ch.check n L).1 = 0 then Tx.prt n L else []).toArray⟩ : ByteArray) = P := ⟨_, rfl⟩
  have hPP : (Ch.check n L).1 = 0 → Hid (P.size ≤ 1000000 ∧ Tx.prs P.data.toList = some (n, L) ∧ L.length ≤ 300) := fun h0 => Lib.hid (by
    rw [if_pos h0] at hP
    have e : P.data.toList = Tx.prt n L := by rw [← hP]
    obtain ⟨r1, r2, r3⟩ := Tx.check_rng h0
    refine ⟨?_, by rw [e]; exact Tx.prs_prt h0, r2⟩
    have hl := Tx.pf_len (n := n) (L := L) L.length (by unfold Tx.R64'; omega) (fun l hl => by have := r3 l hl; unfold Tx.R64'; omega) (by omega)
    rw [Tx.pf_all n L L.length (Nat.le_refl _), ← e] at hl
    have : P.data.toList.length = P.size := by simp
    omega)
  rw [hP] at HPr
  obtain ⟨er, her⟩ : ∃ er, (Ch.check n L).1 = er := ⟨_, rfl⟩
  rw [her] at HPr hPP
  clear hP her V
  unfold sysV at *
  go_enter Tryz.func4, Tryz.ntmps4
  have hJ0 : TJ w n a L.length cap L (w.alloc (Obj.cells #[.int .i64 n, .slice a L.length cap] 24)) := ⟨by simp [go_sem], by simp [go_sem], hL.below (below_alloc (Below.refl _ _) _), below_alloc (Below.refl _ _) _⟩
  replace hJ0 := Lib.hid hJ0
  go_upto_region 1 with fail
  generalize w.alloc (Obj.cells #[.int .i64 n, .slice a L.length cap] 24) = X at *
  have c0 := hJ0.out.c0
  have c1 := hJ0.out.c1
  go_wp2_with fail
  refine (HS.out _).mono ?_
  rintro e w1 ⟨rfl, hb1⟩
  have hJ1 := Lib.hid (hJ0.out.below hb1)
  clear c0 c1 hJ0 hb1 HS
  have c0 := hJ1.out.c0
  have c1 := hJ1.out.c1
  go_wp2_with fail
  refine (HPr.out _ hJ1.out.l (Tab.mono (hTab.out.on hJ1.out.b) hJ1.out.b.size)).mono ?_
  rintro e w2 ⟨rfl, hb2⟩
  have hJ2 := Lib.hid (hJ1.out.below hb2)
  clear c0 c1 hJ1 hb2 HPr
  have hRT := Lib.hid fun (W : World) (V : Vars W) (t : Tab W.heap.size W) => parse_any T (by omega) W V (Lib.hid t)
  obtain ⟨r, hr⟩ : ∃ r, Tx.prs T.data.toList = r := ⟨_, rfl⟩
  rw [hr] at hRT
  have hrr : ∀ n1 L1, r = some (n1, L1) → (Ch.check n1 L1).1 = 0 ∧ Tx.prt n1 L1 = T.data.toList := fun n1 L1 e => Tx.prs_some (hr.trans e)
  clear hr
  by_cases h0 : er = 0
  · subst h0
    obtain ⟨hPz, hPq, hL3⟩ := (hPP rfl).out
    clear hPP
    have hRP := Lib.hid fun (W : World) (V : Vars W) (t : Tab W.heap.size W) => parse_any P hPz W V (Lib.hid t)
    rw [hPq] at hRP
    clear hPq
    obtain ⟨V2⟩ := V1.out _ hJ2.out.b
    go_wp2_with fail
    refine (hRP.out w2 V2 (Tab.mono (hTab.out.on hJ2.out.b) hJ2.out.b.size)).mono ?_
    intro e w3 h3
    obtain ⟨a3, cap3, rfl, hl3, hb3⟩ := ps_un h3
    have hJ3 := Lib.hid (hJ2.out.below hb3)
    clear h3 hb3 hJ2 V2 hRP
    simp only [Option.getD_some, Option.isSome_some, if_true] at hl3 ⊢
    go_upto_region 6 with fail
    have hB3 := Lib.hid (BJ.mk' (W := w3) (n := n) (a := a3) (cap := cap3) hl3.out)
    have hJ4 := Lib.hid (hJ3.out.below ((Below.refl _ _).alloc (Nat.le_refl _) (Obj.cells #[.int .i64 n, .slice a3 L.length cap3] 24)))
    clear hJ3 hl3
    generalize w3.alloc (Obj.cells #[.int .i64 n, .slice a3 L.length cap3] 24) = X4 at *
    generalize w3.heap.size = s3 at *
    have c0 := hJ4.out.c0
    have c1 := hJ4.out.c1
    have d0 := hB3.out.c0
    have d1 := hB3.out.c1
    have HSS := Lib.hid (same_any n n a3 a L.length L.length cap3 cap L L (Lib.hid rfl) (Lib.hid rfl) (by omega) true (Lib.hid (by simp)) X4 (Lib.hid hB3.out.l) (Lib.hid hJ4.out.l))
    unfold sysV at HSS
    go_wp2_with fail
    refine HSS.out.mono ?_
    rintro e w5 ⟨rfl, hb5⟩
    have bJ := Lib.hid (hJ4.out.b.trans (hb5.mono hJ4.out.b.size))
    clear c0 c1 d0 d1 hJ4 hB3 HSS hb5
    obtain ⟨V2⟩ := V1.out _ bJ.out
    cases r with
    | none =>
      clear hrr
      go_wp2_with fail
      refine (hRT.out w5 V2 (Tab.mono (hTab.out.on bJ.out) bJ.out.size)).mono ?_
      rintro e w6 ⟨hb6, rfl⟩
      have bK := Lib.hid (bJ.out.trans (hb6.mono bJ.out.size))
      clear bJ hb6 hRT V2
      go_upto_region 9 with fail
      have bL := Lib.hid (below_alloc bK.out (Obj.cells #[.int .i64 0, .slice none 0 0] 24))
      generalize w6.alloc (Obj.cells #[.int .i64 0, .slice none 0 0] 24) = X7 at *
      go_wp2_with fail
      refine (sanity_any X7).mono ?_
      rintro e w9 ⟨rfl, hb9⟩
      have bM := bL.out.trans (hb9.mono bL.out.size)
      go_wp2
      go_ret
      exact ⟨rfl, bM⟩
    | some x =>
      obtain ⟨n1, L1⟩ := x
      obtain ⟨hc1, hp1⟩ := hrr n1 L1 rfl
      clear hrr
      go_wp2_with fail
      refine (hRT.out w5 V2 (Tab.mono (hTab.out.on bJ.out) bJ.out.size)).mono ?_
      rintro e w6 ⟨hb6, v6, rfl, ho6⟩
      obtain ⟨a6, cap6, rfl, hl6⟩ := lks_of_owns ho6.out
      have bK := Lib.hid (bJ.out.trans (hb6.mono bJ.out.size))
      clear bJ hb6 hRT V2 ho6
      simp only at hl6 ⊢
      go_upto_region 9 with fail
      have bL := Lib.hid (below_alloc bK.out (Obj.cells #[.int .i64 n1, .slice a6 L1.length cap6] 24))
      have hB7 := Lib.hid (BJ.mk' (W := w6) (n := n1) (a := a6) (cap := cap6) hl6)
      generalize w6.alloc (Obj.cells #[.int .i64 n1, .slice a6 L1.length cap6] 24) = X7 at *
      generalize w6.heap.size = s6 at *
      have d0 := hB7.out.c0
      have d1 := hB7.out.c1
      have HP2 := print_any n1 a6 cap6 L1 X7 (Lib.hid hB7.out.l) (Lib.hid (Tab.mono (hTab.out.on bL.out) bL.out.size))
      rw [if_pos hc1, hc1, hp1] at HP2
      have hTe : (⟨T.data.toList.toArray⟩ : ByteArray) = T := ByteArray.ext (by simp)
      rw [hTe] at HP2
      unfold sysV at HP2
      replace HP2 := Lib.hid HP2
      clear hc1 hp1 hTe hl6 hB7 bK
      go_wp2_with fail
      refine HP2.out.mono ?_
      rintro e w8 ⟨rfl, hb8⟩
      have bM := Lib.hid (bL.out.trans (hb8.mono bL.out.size))
      clear bL hb8 d0 d1 HP2
      have nT : (T.toList == T.toList) = true := beq_self_eq_true _
      go_wp2_with fail
      refine (sanity_any w8).mono ?_
      rintro e w9 ⟨rfl, hb9⟩
      have bN := bM.out.trans (hb9.mono bM.out.size)
      go_wp2
      go_ret
      exact ⟨rfl, bN⟩
  · have n0 : (er == 0) = false := by simpa using h0
    clear hPP
    have bJ := Lib.hid hJ2.out.b
    clear hJ2
    obtain ⟨V2⟩ := V1.out _ bJ.out
    cases r with
    | none =>
      clear hrr
      go_wp2_with fail
      refine (hRT.out w2 V2 (Tab.mono (hTab.out.on bJ.out) bJ.out.size)).mono ?_
      rintro e w6 ⟨hb6, rfl⟩
      have bK := Lib.hid (bJ.out.trans (hb6.mono bJ.out.size))
      clear bJ hb6 hRT V2
      go_upto_region 9 with fail
      have bL := Lib.hid (below_alloc bK.out (Obj.cells #[.int .i64 0, .slice none 0 0] 24))
      generalize w6.alloc (Obj.cells #[.int .i64 0, .slice none 0 0] 24) = X7 at *
      go_wp2_with fail
      refine (sanity_any X7).mono ?_
      rintro e w9 ⟨rfl, hb9⟩
      have bM := bL.out.trans (hb9.mono bL.out.size)
      go_wp2
      go_ret
      exact ⟨rfl, bM⟩
    | some x =>
      obtain ⟨n1, L1⟩ := x
      obtain ⟨hc1, hp1⟩ := hrr n1 L1 rfl
      clear hrr
      go_wp2_with fail
      refine (hRT.out w2 V2 (Tab.mono (hTab.out.on bJ.out) bJ.out.size)).mono ?_
      rintro e w6 ⟨hb6, v6, rfl, ho6⟩
      obtain ⟨a6, cap6, rfl, hl6⟩ := lks_of_owns ho6.out
      have bK := Lib.hid (bJ.out.trans (hb6.mono bJ.out.size))
      clear bJ hb6 hRT V2 ho6
      simp only at hl6 ⊢
      go_upto_region 9 with fail
      have bL := Lib.hid (below_alloc bK.out (Obj.cells #[.int .i64 n1, .slice a6 L1.length cap6] 24))
      have hB7 := Lib.hid (BJ.mk' (W := w6) (n := n1) (a := a6) (cap := cap6) hl6)
      generalize w6.alloc (Obj.cells #[.int .i64 n1, .slice a6 L1.length cap6] 24) = X7 at *
      generalize w6.heap.size = s6 at *
      have d0 := hB7.out.c0
      have d1 := hB7.out.c1
      have HP2 := print_any n1 a6 cap6 L1 X7 (Lib.hid hB7.out.l) (Lib.hid (Tab.mono (hTab.out.on bL.out) bL.out.size))
      rw [if_pos hc1, hc1, hp1] at HP2
      have hTe : (⟨T.data.toList.toArray⟩ : ByteArray) = T := ByteArray.ext (by simp)
      rw [hTe] at HP2
      unfold sysV at HP2
      replace HP2 := Lib.hid HP2
      clear hc1 hp1 hTe hl6 hB7 bK
      go_wp2_with fail
      refine HP2.out.mono ?_
      rintro e w8 ⟨rfl, hb8⟩
      have bM := Lib.hid (bL.out.trans (hb8.mono bL.out.size))
      clear bL hb8 d0 d1 HP2
      have nT : (T.toList == T.toList) = true := beq_self_eq_true _
      go_wp2_with fail
      refine (sanity_any w8).mono ?_
      rintro e w9 ⟨rfl, hb9⟩
      have bN := bM.out.trans (hb9.mono bM.out.size)
      go_wp2
      go_ret
      exact ⟨rfl, bN⟩

theorem chainBack_true (w : World) (n : Int) (a : Option Addr) (m cap : Nat) (_ : -9223372036854775808 ≤ n ∧ n ≤ 9223372036854775807) (_ : a = none → cap = 0) (_ : m ≤ maxLen) (L : List Ch.Lk) (hm : L.length = m) (hL : LksAt w a L) (T : ByteArray) (V : Vars w) (hTab : Lib.TabBelow Tryz.prog w.heap.size w "internal/strconv.uint64pow10" .u64 Lib.pow10Tab) :
    Calls Tryz.prog 4 #[sysV n a m cap, .string T] w (LawPost w) := by
  by_cases h1 : (decide (m ≤ 310) && decide (n ≤ 70)) = true
  · by_cases h2 : T.size ≤ 3000
    · exact back_main n a m cap T h1 h2 w V (Lib.hid hTab) L hm hL
    · exact back_other n a m cap T (Or.inr (by omega)) w
  · exact back_other n a m cap T (Or.inl (by simpa using h1)) w
end Go.Proofs.YtemacokojdeimaaGreatDoor
