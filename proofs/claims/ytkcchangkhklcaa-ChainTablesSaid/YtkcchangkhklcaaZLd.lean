/- The law ChainTables. -/
import Derived.Test.YtkcchangkhklcaaZLda
import Derived.Test.YtkcchangkhklcaaZLdb
import Derived.Test.YtkcchangkhklcaaZLdc
import Derived.Test.YtkcchangkhklcaaZLdd
set_option linter.unusedSimpArgs false
set_option linter.unusedVariables false
namespace Go.Proofs.Ytkcchangkhklcaa
open Go.RowKit

set_option linter.unusedSimpArgs false in
set_option maxRecDepth 100000 in
set_option maxHeartbeats 16000000 in
theorem tables_other (n : Int) (a : Option Addr) (m cap : Nat) (hsm : Hid ((decide (m ≤ 310) && decide (n ≤ 70)) = false)) (w : World) :
    Calls Try.prog 5 #[sysV n a m cap] w (LawPost w) := by
  have HSa := Lib.hid fun (W : World) => sanity_any W
  have HSm := Lib.hid fun (W : World) => small_any n a m cap false hsm W
  clear hsm
  unfold sysV at *
  go_enter Try.func5, Try.ntmps5
  go_wp2_with fail
  refine (HSm.out _).mono ?_
  rintro e w1 ⟨rfl, hb⟩
  have hB1 := bstep1 (Below.refl _ _) hb
  clear hb HSm
  go_wp2_with fail
  refine (HSa.out _).mono ?_
  rintro e w99 ⟨rfl, hb⟩
  have hB := (hB1).trans (hb.mono (hB1).size)
  clear hb
  go_wp2
  go_ret
  exact ⟨rfl, hB⟩
set_option linter.unusedSimpArgs false in
set_option maxRecDepth 100000 in
set_option maxHeartbeats 16000000 in
theorem tables_err (n : Int) (a : Option Addr) (m cap : Nat) (L : List Ch.Lk) (hm : Hid (L.length = m)) (hsm : Hid ((decide (m ≤ 310) && decide (n ≤ 70)) = true)) (k : Nat) (hT : Ch.ET n L k) (ho : ¬ Ch.opn n L [] k = 0) (w : World) (hL : Hid (LksAt w a L)) :
    Calls Try.prog 5 #[sysV n a m cap] w (LawPost w) := by
  have hn70 : n ≤ 70 := by
    have h := hsm.out
    rw [Bool.and_eq_true, decide_eq_true_eq, decide_eq_true_eq] at h
    exact h.2
  have HSm := Lib.hid fun (W : World) => small_any n a m cap true hsm W
  have HSa := Lib.hid fun (W : World) => sanity_any W
  have hgw := hT.great_bad ho
  have hlw := Ch.least_bad ho
  have HTi := Lib.hid fun (W : World) (h : SB w n a m cap L W) => tight_any n a cap L k hT.en.en W h.l
  have HSp := Lib.hid fun (W : World) (h : SB w n a m cap L W) => spans_any n a cap L k hT.en.en hT.en2.en (fun h => absurd h ho) W h.l
  have HGr := Lib.hid fun (W : World) (h : SB w n a m cap L W) => greatestW_any n (by omega) a cap L k hT.en2.en (Ch.great_len hT.en2.en) W h.l
  have HLe := Lib.hid fun (W : World) (h : SB w n a m cap L W) => leastW_any n (by omega) a cap L k hT.en.en (Ch.least_len hT.en.en) W h.l
  have HAs := Lib.hid fun (W : World) (h : SB w n a m cap L W) => asked_any n a m cap L hm 0 0 k hT.en W (Lib.hid h.l)
  rw [hgw] at HGr
  rw [hlw] at HLe
  rw [Ch.opn_zero] at HAs
  rw [hm.out] at HTi HSp HGr HLe
  obtain ⟨ec, hec⟩ : ∃ ec, Ch.opn n L [] k = ec := ⟨_, rfl⟩
  rw [hec] at HTi HSp HGr HLe HAs ho
  have g1 : (ec != 0) = true := by rw [bne_iff_ne]; exact ho
  have g2 : (ec != ec) = false := by simp
  have g3 : (ec == ec) = true := by simp
  replace ho := Lib.hid ho
  unfold sysV at *
  clear hT hgw hlw hec
  go_enter Try.func5, Try.ntmps5
  go_wp2_with fail
  refine (HSm.out _).mono ?_
  rintro e w1 ⟨rfl, hb⟩
  have hB1 := bstep1 (Below.refl _ _) hb
  have hJ1 := Lib.hid (SB.mk (w := w) (n := n) (a := a) (m := m) (cap := cap) (W := w1) (kept1 (by simp [go_sem]) hb) (kept1 (by simp [go_sem]) hb) (hL.out.below hB1) hB1)
  clear hb hB1 HSm hsm hL
  have k0 := hJ1.out.c0
  have k1 := hJ1.out.c1
  go_wp2_with fail
  refine (HTi.out _ hJ1.out).mono ?_
  rintro e w2 ⟨hb, h⟩
  obtain ⟨_, rfl⟩ := h.resolve_right (fun h => ho.out h.1)
  have hJ2 := Lib.hid (hJ1.out.below hb)
  clear hb k0 k1 hJ1 HTi h
  have k0 := hJ2.out.c0
  have k1 := hJ2.out.c1
  go_wp2_with fail
  refine (HSp.out _ hJ2.out).mono ?_
  rintro e w3 ⟨hb, h⟩
  obtain ⟨_, rfl⟩ := h.resolve_right (fun h => ho.out h.1)
  have hJ3 := Lib.hid (hJ2.out.below hb)
  clear hb k0 k1 hJ2 HSp h
  have k0 := hJ3.out.c0
  have k1 := hJ3.out.c1
  go_wp2_with fail
  refine (HGr.out _ hJ3.out).mono ?_
  rintro e w4 ⟨hb, h⟩
  obtain ⟨_, rfl⟩ := h.resolve_right (fun h => ho.out h.1)
  have hJ4 := Lib.hid (hJ3.out.below hb)
  clear hb k0 k1 hJ3 HGr h
  have k0 := hJ4.out.c0
  have k1 := hJ4.out.c1
  go_wp2_with fail
  refine (HLe.out _ hJ4.out).mono ?_
  rintro e w5 ⟨hb, h⟩
  obtain ⟨_, rfl⟩ := h.resolve_right (fun h => ho.out h.1)
  have hJ5 := Lib.hid (hJ4.out.below hb)
  clear hb k0 k1 hJ4 HLe h
  have k0 := hJ5.out.c0
  have k1 := hJ5.out.c1
  go_wp2_with fail
  refine (HAs.out _ hJ5.out).mono ?_
  rintro e w6 ⟨rfl, hb⟩
  have hJ6 := Lib.hid (hJ5.out.below hb)
  clear hb k0 k1 hJ5 HAs
  go_wp2_with fail
  refine (HSa.out _).mono ?_
  rintro e w99 ⟨rfl, hb⟩
  have hB := (hJ6.out.b).trans (hb.mono (hJ6.out.b).size)
  clear hb hJ6
  go_wp2
  go_ret
  exact ⟨rfl, hB⟩
/-- the law -/
theorem chainTables_true (w : World) (n : Int) (a : Option Addr) (m cap : Nat) (_ : I64 n) (_ : a = none → cap = 0) (_ : m ≤ maxLen) (L : List Ch.Lk) (hm : L.length = m) (hL : LksAt w a L) (_ : ∀ i, i < m → I64l (L.getD i Ch.noLk)) :
    Calls Try.prog 5 #[sysV n a m cap] w (LawPost w) := by
  obtain ⟨K, hT⟩ := Ch.et_ex n L
  cases h : (decide (m ≤ 310) && decide (n ≤ 70))
  · exact tables_other n a m cap (Lib.hid h) w
  · by_cases ho : Ch.opn n L [] K = 0
    · rcases Ch.hiK_two (Ch.tb n L K) n.toNat with hg | hg
      · rcases Ch.loK_two (Ch.tb n L K) n.toNat with hh | hh
        · exact tables_a n a m cap L (Lib.hid hm) (Lib.hid h) K hT ho hg hh w (Lib.hid hL)
        · exact tables_b n a m cap L (Lib.hid hm) (Lib.hid h) K hT ho hg hh w (Lib.hid hL)
      · rcases Ch.loK_two (Ch.tb n L K) n.toNat with hh | hh
        · exact tables_c n a m cap L (Lib.hid hm) (Lib.hid h) K hT ho hg hh w (Lib.hid hL)
        · exact tables_d n a m cap L (Lib.hid hm) (Lib.hid h) K hT ho hg hh w (Lib.hid hL)
    · exact tables_err n a m cap L (Lib.hid hm) (Lib.hid h) K hT ho w (Lib.hid hL)
end Go.Proofs.Ytkcchangkhklcaa
