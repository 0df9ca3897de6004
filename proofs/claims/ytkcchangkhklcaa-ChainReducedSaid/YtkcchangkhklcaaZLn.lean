/- The law ChainReduced. -/
import Derived.Test.YtkcchangkhklcaaZUo
import Derived.Test.YtkcchangkhklcaaZYl
import Derived.Test.YtkcchangkhklcaaZSw
import Derived.Test.YtkcchangkhklcaaZTt
import Derived.Test.YtkcchangkhklcaaZ06
import Derived.Test.YtkcchangkhklcaaZWt
import Derived.Test.YtkcchangkhklcaaZHh
import Derived.Test.YtkcchangkhklcaaZYa
set_option linter.unusedSimpArgs false
set_option linter.unusedVariables false
namespace Go.Proofs.Ytkcchangkhklcaa
open Go.RowKit

theorem reduced_other (n : Int) (a : Option Addr) (m cap : Nat) (hli : Hid ((decide (m ≤ 45) && decide (n ≤ 14)) = false)) (w : World) :
    Calls Try.prog 8 #[sysV n a m cap] w (LawPost w) := by
  have HSa := Lib.hid fun (W : World) => sanity_any W
  have HSm := Lib.hid fun (W : World) => light_any n a m cap false hli W
  clear hli
  unfold sysV at *
  go_enter Try.func8, Try.ntmps8
  go_wp2_with fail
  refine (HSm.out _).mono ?_
  rintro e w1 ⟨rfl, hb⟩
  have hB1 := bstep1 (Below.refl _ _) hb
  clear hb HSm
  go_wp2_with fail
  refine (HSa.out _).mono ?_
  rintro e w99 ⟨rfl, hb⟩
  have hB := hB1.trans (hb.mono hB1.size)
  clear hb
  go_wp2
  go_ret
  exact ⟨rfl, hB⟩

set_option linter.unusedSimpArgs false in
set_option maxRecDepth 100000 in
set_option maxHeartbeats 8000000 in
theorem reduced_err (n : Int) (a : Option Addr) (m cap : Nat) (L : List Ch.Lk) (hm : Hid (L.length = m)) (hli : Hid ((decide (m ≤ 45) && decide (n ≤ 14)) = true)) (k : Nat) (hA : Ch.EA n L k) (ho : ¬ Ch.opn n L [] k = 0) (w : World) (hL : Hid (LksAt w a L)) :
    Calls Try.prog 8 #[sysV n a m cap] w (LawPost w) := by
  have HSa := Lib.hid fun (W : World) => sanity_any W
  have HSm := Lib.hid fun (W : World) => light_any n a m cap true hli W
  have hrd : Ch.reduce n L k = ([], Ch.opn n L [] k) := by unfold Ch.reduce; rw [if_pos ho]
  have HTi := Lib.hid fun (W : World) (h : SB w n a m cap L W) => tight_any n a cap L k hA.en.en W h.l
  have HRe := Lib.hid fun (W : World) (h : SB w n a m cap L W) => reduce_any n a cap L k hA.en.en hA.rd_enough [] _ hrd W h.l
  rw [hm.out] at HTi HRe
  obtain ⟨ec, hec⟩ : ∃ ec, Ch.opn n L [] k = ec := ⟨_, rfl⟩
  rw [hec] at HTi HRe ho
  have g1 : (ec != 0) = true := by rw [bne_iff_ne]; exact ho
  have g2 : (ec == ec) = true := by simp
  replace ho := Lib.hid ho
  unfold sysV at *
  clear hA hrd hec hli
  go_enter Try.func8, Try.ntmps8
  go_wp2_with fail
  refine (HSm.out _).mono ?_
  rintro e w1 ⟨rfl, hb⟩
  have hB1 := bstep1 (Below.refl _ _) hb
  have hJ := Lib.hid (SB.mk (w := w) (n := n) (a := a) (m := m) (cap := cap) (W := w1) (kept1 (by simp [go_sem]) hb) (kept1 (by simp [go_sem]) hb) (hL.out.below hB1) hB1)
  clear hb hB1 HSm hL
  have k0 := hJ.out.c0
  have k1 := hJ.out.c1
  go_wp2_with fail
  refine (HTi.out _ hJ.out).mono ?_
  rintro e w2 ⟨hb, h⟩
  obtain ⟨_, rfl⟩ := h.resolve_right (fun h => ho.out h.1)
  have hJ2 := Lib.hid (hJ.out.below hb)
  clear hb hJ k0 k1 HTi h
  have k0 := hJ2.out.c0
  have k1 := hJ2.out.c1
  go_wp2_with fail
  refine (HRe.out _ hJ2.out).mono ?_
  rintro e w3 ⟨cv, rfl, _, hb⟩
  have hJ3 := Lib.hid (hJ2.out.below hb)
  clear hb hJ2 k0 k1 HRe
  have k0 := hJ3.out.c0
  have k1 := hJ3.out.c1
  go_wp2_with fail
  refine (HSa.out _).mono ?_
  rintro e w99 ⟨rfl, hb⟩
  have hB := hJ3.out.b.trans (hb.mono hJ3.out.b.size)
  clear hb k0 k1 hJ3
  go_wp2
  go_ret
  exact ⟨rfl, hB⟩

set_option linter.unusedSimpArgs false in
set_option maxRecDepth 100000 in
set_option maxHeartbeats 8000000 in
theorem reduced_ok (n : Int) (a : Option Addr) (m cap : Nat) (L : List Ch.Lk) (hm : Hid (L.length = m)) (hm9 : m ≤ 45) (hli : Hid ((decide (m ≤ 45) && decide (n ≤ 14)) = true)) (k k2 : Nat) (hA : Ch.EA n L k) (ho : Ch.opn n L [] k = 0) (hA2 : Ch.EA n (Ch.kept L (Ch.rd n.toNat L k L.length)) k2) (w : World) (hL : Hid (LksAt w a L)) :
    Calls Try.prog 8 #[sysV n a m cap] w (LawPost w) := by
  obtain ⟨i0, hi, hz0, hz1, hz2⟩ := info_parts infoInt
  have HSa := Lib.hid fun (W : World) => sanity_any W
  have HSm := Lib.hid fun (W : World) => light_any n a m cap true hli W
  have ho2 := hA.kept_opn ho hA2
  have hid := hA.red_idle ho hA2
  have htb := (hA.kept_tb ho hA2).2 (hA.rd_cov ho _ (Nat.le_refl _))
  have hwo := Ch.wo_gone (L := L) (D := Ch.rd n.toNat L k L.length)
  have hkl := Ch.kept_len L (Ch.rd n.toNat L k L.length)
  have hil := Ch.leftK_len (Ch.rd n.toNat L k L.length) L.length
  have hck := (Ch.opn_ok ho).1
  obtain ⟨n1, n2, _⟩ := Ch.check_ok hck
  have HTi := Lib.hid fun (W : World) (h : SB w n a m cap L W) => tight_any n a cap L k hA.en.en W h.l
  have HRe := Lib.hid fun (W : World) (h : SB w n a m cap L W) => reduce_any n a cap L k hA.en.en hA.rd_enough _ _ (Ch.EA.reduce ho) W h.l
  have HWt := Lib.hid fun (W : World) (h : SB w n a m cap L W) (b : Option Addr) (q c2 : Nat) (l : List Int) (hq : l.length = q) (hq9 : q ≤ 1000) (hl : IntsAt W b l) => withoutS_any n a b m q cap c2 L l hm (Lib.hid hq) hq9 W (Lib.hid h.l) (Lib.hid hl)
  obtain ⟨M, hM⟩ : ∃ M, Ch.kept L (Ch.rd n.toNat L k L.length) = M := ⟨_, rfl⟩
  obtain ⟨I, hI⟩ : ∃ I, Ch.leftK (Ch.rd n.toNat L k L.length) L.length = I := ⟨_, rfl⟩
  obtain ⟨q, hq⟩ : ∃ q, I.length = q := ⟨_, rfl⟩
  rw [hM] at hA2 ho2 hid htb hwo hkl
  rw [hI] at HRe hwo hkl hil
  rw [hq] at hkl hil
  rw [hm.out] at HTi HRe hwo hil
  have HT2 := Lib.hid fun (W : World) (xb : Nat) (x : Option Addr) (cx : Nat) (h : SX xb n x q cx M W) => tight_any n x cx M k2 hA2.en.en W h.l
  have HI2 := Lib.hid fun (W : World) (xb : Nat) (x : Option Addr) (cx : Nat) (h : SX xb n x q cx M W) => idle_any n x cx M k2 hA2.en.en hA2.idle_enough W h.l
  rw [hkl, ho2] at HT2 HI2
  rw [hkl] at hid
  rw [if_pos rfl, hid] at HI2
  rw [ho] at HTi
  have ed : tightB n L k = Ch.tb n L k := rfl
  have ed2 : tightB n M k2 = Ch.tb n M k2 := rfl
  rw [ed] at HTi
  rw [ed2] at HT2
  obtain ⟨D, hD⟩ : ∃ D, Ch.tb n L k = D := ⟨_, rfl⟩
  obtain ⟨E, hE⟩ : ∃ E, Ch.tb n M k2 = E := ⟨_, rfl⟩
  rw [hD, hE] at htb
  rw [hD] at HTi
  rw [hE] at HT2
  obtain ⟨N, rfl⟩ : ∃ N : Nat, n = (N : Int) := ⟨n.toNat, by omega⟩
  simp only [Int.toNat_natCast] at *
  have hNN : ((N : Int) != (N : Int)) = false := by simp
  have hqq : ((q : Int) != (q : Int)) = false := by simp
  replace htb := Lib.hid htb
  replace hwo := Lib.hid hwo
  replace hq := Lib.hid hq
  replace hkl := Lib.hid hkl
  replace hck := Lib.hid hck
  unfold sysV at *
  clear hD hE ed ed2 hA hA2 ho ho2 hid hM hI hli
  go_enter Try.func8, Try.ntmps8
  go_wp2_with fail
  refine (HSm.out _).mono ?_
  rintro e w1 ⟨rfl, hb⟩
  have hB1 := bstep1 (Below.refl _ _) hb
  have hJ := Lib.hid (SB.mk (w := w) (n := (N : Int)) (a := a) (m := m) (cap := cap) (W := w1) (kept1 (by simp [go_sem]) hb) (kept1 (by simp [go_sem]) hb) (hL.out.below hB1) hB1)
  clear hb hB1 HSm hL
  have k0 := hJ.out.c0
  have k1 := hJ.out.c1
  go_wp2_with fail
  refine (HTi.out _ hJ.out).mono ?_
  rintro e w2 ⟨hb, h⟩
  obtain ⟨_, ob, S0, _, _, rfl, ho1, hr1⟩ := h.resolve_left (fun h => h.1 rfl)
  have hJ2 := Lib.hid (hJ.out.below hb)
  have hT2 := Lib.hid (TBL.mk (D := D) ho1 hr1)
  clear ho1 hr1 hb hJ k0 k1 HTi h
  have k0 := hJ2.out.c0
  have k1 := hJ2.out.c1
  go_wp2_with fail
  refine (HRe.out _ hJ2.out).mono ?_
  rintro e w3 ⟨cv, rfl, hown, hb⟩
  obtain ⟨p3, c3, rfl, hIs, _⟩ := ints_of_own hown
  rw [hq.out]
  have hJ3 := Lib.hid (hJ2.out.below hb)
  have hT3 := Lib.hid (hT2.out.below hb)
  have hIl : Hid ((Ch.ints I).length = q) := Lib.hid (by rw [Ch.ints_len]; exact hq.out)
  replace hIs := Lib.hid hIs
  clear hb hJ2 hT2 k0 k1 HRe hown
  have k0 := hJ3.out.c0
  have k1 := hJ3.out.c1
  go_wp2
  clear k0 k1
  go_loopw [8, 7] (fun i gv wr => ∃ j : Nat, j ≤ m ∧ i = .int .i64 j ∧ Hid (Below w3.heap.size w3 wr) ∧ Hid (wr.ownsRow w3.heap.size 3 1 gv (Ch.goneK I j).length ((Ch.goneK I j).map fun i : Nat => Value.int .i64 (i : Int)))) (fun i _ _ => m - (RowKit.intOf i).toNat)
  case atStart => exact ⟨0, Nat.zero_le _, rfl, Lib.hid (Below.refl _ _), Lib.hid (World.ownsRow_nil _ _ _ _)⟩
  case round =>
    obtain ⟨j, hj, rfl, hB, hown⟩ := hrel
    have k0 := kept1 hJ3.out.c0 hB.out
    have k1 := kept1 hJ3.out.c1 hB.out
    by_cases hlt : j < m
    · have hi5 : (j : Int) < (m : Int) := by omega
      cases hh : decide ((j : Int) ∈ Ch.ints I)
      · have HH := Lib.hid (has_any p3 q c3 (Ch.ints I) j hIl (by omega) false (Lib.hid hh) wr (Lib.hid (hIs.out.below hB.out)))
        have hht := Lib.hid (Ch.goneK_hit hh)
        have hlen := Ch.goneK_len I j
        clear hh
        go_wp2_with fail
        refine HH.out.mono ?_
        rintro e w4 ⟨rfl, hw⟩
        subst hw
        have hown1 := hown.out
        have hsz := hB.out.size
        clear HH
        go_wp2_with (first
          | (at_builtin; refine wpList_append_own _ rfl (.tmp 48) (.tmp 50) 32 rfl w3.heap.size 3 i0 (.int .i64 0) 1 8 Try.underlying32 hi hz0 hz1 hz2 rfl (by decide) _ _ _ rfl (hown1.alloc _) ⟨w4.heap.size, 0, none⟩ 1 1 [.int .i64 (j : Int)] rfl rfl ?c1 ?c2 ?c3 ?c4 ?c5 ?_)
          | fail)
        case c1 =>
          intro j u hj
          match j, hj with
          | 0, hj => simp at hj; subst hj; simp [Addr.add]
        case c2 => intro u hu; simp at hu; subst hu; rfl
        case c3 => unfold maxLen; omega
        case c4 => omega
        case c5 => simp; omega
        intro v' w5 hown' hgrow hnn
        have hB5 := Lib.hid (below_grown (hB.out.alloc hB.out.size (Obj.cells #[.int .i64 (j : Int)] 3)) (hown1.alloc (Obj.cells #[.int .i64 (j : Int)] 3)) hgrow)
        have hown5 : Hid (w5.ownsRow w3.heap.size 3 1 v' (Ch.goneK I (j + 1)).length ((Ch.goneK I (j + 1)).map fun i : Nat => Value.int .i64 (i : Int))) := Lib.hid (by
          rw [hht.out, List.length_append, List.map_append]
          exact hown')
        clear hown hown1 hown' hgrow hnn hB k0 k1
        go_wp2
        go_roundw
        case rel => exact ⟨j + 1, by omega, by go_num, hB5, hown5⟩
        case measure => show m - ((j : Int) + 1).toNat < m - (j : Int).toNat; omega
      · have HH := Lib.hid (has_any p3 q c3 (Ch.ints I) j hIl (by omega) true (Lib.hid hh) wr (Lib.hid (hIs.out.below hB.out)))
        have hht := Lib.hid (Ch.goneK_miss hh)
        clear hh
        go_wp2_with fail
        refine HH.out.mono ?_
        rintro e w4 ⟨rfl, hw⟩
        subst hw
        clear HH
        go_wp2
        go_roundw
        case rel => exact ⟨j + 1, by omega, by go_num, hB, Lib.hid (by rw [hht.out]; exact hown.out)⟩
        case measure => show m - ((j : Int) + 1).toNat < m - (j : Int).toNat; omega
    · obtain rfl : j = m := by omega
      have hi5 : ¬ (j : Int) < (j : Int) := by omega
      have hgl := Ch.goneK_len I j
      obtain ⟨p4, c4, rfl, hGs, _⟩ := ints_of_own hown.out
      obtain ⟨gq, hgq⟩ : ∃ gq, (Ch.goneK I j).length = gq := ⟨_, rfl⟩
      rw [hgq] at hgl ⊢
      have hJ4 := Lib.hid (hJ3.out.below hB.out)
      have hT4 := Lib.hid (hT3.out.below hB.out)
      have HW := HWt.out wr hJ4.out p4 gq c4 (Ch.ints (Ch.goneK I j)) (by rw [Ch.ints_len]; exact hgq) (by omega) hGs
      rw [hwo.out, hck.out] at HW
      replace HW := Lib.hid HW
      clear hJ3 hT3 hIs hIl hB hown hGs hgq k0 k1 HWt
      have k0 := hJ4.out.c0
      have k1 := hJ4.out.c1
      go_wp2_with fail
      refine HW.out.mono ?_
      rintro e w5 ⟨kk, xv, rfl, _, h0, hb⟩
      obtain ⟨rfl, hox⟩ := h0 rfl
      obtain ⟨px, cx, rfl, hK2⟩ := lks_of_owns hox
      rw [hkl.out]
      have hJ5 := Lib.hid (hJ4.out.below hb)
      have hT5 := Lib.hid (hT4.out.below hb)
      have hb9 : Below w5.heap.size w5 (w5.alloc (Obj.cells #[.int .i64 (N : Int), .slice px q cx] 24)) := (Below.refl _ _).alloc (Nat.le_refl _) _
      have hJ6 := Lib.hid (hJ5.out.below hb9)
      have hT6 := Lib.hid (hT5.out.below hb9)
      have hX6 : Hid (SX w5.heap.size (N : Int) px q cx M (w5.alloc (Obj.cells #[.int .i64 (N : Int), .slice px q cx] 24))) := Lib.hid ⟨by simp [go_sem], by simp [go_sem], hK2.below hb9⟩
      clear hJ4 hT4 hJ5 hT5 hb hb9 hox h0 hK2 k0 k1 HW
      go_upto_region 14 with fail
      generalize w5.alloc (Obj.cells #[.int .i64 (N : Int), .slice px q cx] 24) = W6 at *
      generalize w5.heap.size = xb at *
      have k0 := hJ6.out.c0
      have k1 := hJ6.out.c1
      have x0 := hX6.out.c0
      have x1 := hX6.out.c1
      go_wp2_with fail
      refine (HT2.out _ _ _ _ hX6.out).mono ?_
      rintro e w7 ⟨hb, h⟩
      obtain ⟨_, ob2, S2, _, _, rfl, ho1, hr1⟩ := h.resolve_left (fun h => h.1 rfl)
      have hJ7 := Lib.hid (hJ6.out.below hb)
      have hX7 := Lib.hid (hX6.out.below hb)
      have hT7 := Lib.hid (hT6.out.below hb)
      have hU7 : Hid (TBL N ob2 S2 D w7) := Lib.hid ⟨ho1, fun u hu => (hr1 u hu).congr (fun v hv => by rw [htb.out u v hu hv])⟩
      clear ho1 hr1 hb hJ6 hX6 hT6 k0 k1 x0 x1 HT2 h
      have x0 := hX7.out.c0
      have x1 := hX7.out.c1
      have HSt := Lib.hid (sameTable_true N ob S0 ob2 S2 (by omega) D w7 hT7 hU7)
      go_wp2_with fail
      refine HSt.out.mono ?_
      rintro e w8 ⟨rfl, hb⟩
      have hJ8 := Lib.hid (hJ7.out.below hb)
      have hX8 := Lib.hid (hX7.out.below hb)
      clear hb hJ7 hX7 hT7 hU7 HSt x0 x1
      have x0 := hX8.out.c0
      have x1 := hX8.out.c1
      go_wp2_with fail
      refine (HI2.out _ _ _ _ hX8.out).mono ?_
      rintro e w9 ⟨dv, rfl, hown, hb⟩
      obtain ⟨p9, c9, rfl, _⟩ := ints_of_own hown
      have hJ9 := Lib.hid (hJ8.out.below hb)
      clear hb hJ8 hX8 x0 x1 HI2 hown
      go_wp2_with fail
      refine (HSa.out _).mono ?_
      rintro e w99 ⟨rfl, hb⟩
      have hB := hJ9.out.b.trans (hb.mono hJ9.out.b.size)
      clear hb hJ9
      go_wp2
      go_ret
      exact ⟨rfl, hB⟩

/-- the law -/
theorem chainReduced_true (w : World) (n : Int) (a : Option Addr) (m cap : Nat) (_ : I64 n) (_ : a = none → cap = 0) (_ : m ≤ maxLen) (L : List Ch.Lk) (hm : L.length = m) (hL : LksAt w a L) (_ : ∀ i, i < m → I64l (L.getD i Ch.noLk)) :
    Calls Try.prog 8 #[sysV n a m cap] w (LawPost w) := by
  cases h : (decide (m ≤ 45) && decide (n ≤ 14))
  · exact reduced_other n a m cap (Lib.hid h) w
  · have hm9 : m ≤ 45 := by
      rw [Bool.and_eq_true, decide_eq_true_eq] at h
      exact h.1
    obtain ⟨K, hK⟩ := Ch.ea_ex n L
    have hA := hK K (Nat.le_refl _)
    by_cases ho : Ch.opn n L [] K = 0
    · obtain ⟨K2, hK2⟩ := Ch.ea_ex n (Ch.kept L (Ch.rd n.toNat L K L.length))
      exact reduced_ok n a m cap L (Lib.hid hm) hm9 (Lib.hid h) K K2 hA ho (hK2 K2 (Nat.le_refl _)) w (Lib.hid hL)
    · exact reduced_err n a m cap L (Lib.hid hm) (Lib.hid h) K hA ho w (Lib.hid hL)
end Go.Proofs.Ytkcchangkhklcaa
