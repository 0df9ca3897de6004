/- The law ChainMatters: an error, or a contradictory system. -/
import Derived.Test.YtkcchangkhklcaaZLgh
set_option linter.unusedSimpArgs false
set_option linter.unusedVariables false
namespace Go.Proofs.Ytkcchangkhklcaa
open Go.RowKit

set_option linter.unusedSimpArgs false in
set_option maxRecDepth 100000 in
set_option maxHeartbeats 16000000 in
theorem matters_other (n : Int) (a : Option Addr) (m cap : Nat) (q : Int) (hli : Hid ((decide (m ≤ 45) && decide (n ≤ 14)) = false)) (w : World) :
    Calls Try.prog 6 #[sysV n a m cap, .int .i64 q] w (LawPost w) := by
  have HSa := Lib.hid fun (W : World) => sanity_any W
  have HSm := Lib.hid fun (W : World) => light_any n a m cap false hli W
  clear hli
  unfold sysV at *
  go_enter Try.func6, Try.ntmps6
  go_wp2_with fail
  refine (HSm.out _).mono ?_
  rintro e w1 ⟨rfl, hb⟩
  have hB1 := bstep1 (Below.refl _ _) hb
  clear hb HSm
  go_wp2_with fail
  refine (HSa.out _).mono ?_
  rintro e w99 ⟨rfl, hb⟩
  have hB := (hB1).trans (hb.mono (hB1).size)
  clear hb
  go_wp2
  go_ret
  exact ⟨rfl, hB⟩
set_option linter.unusedSimpArgs false in
set_option maxRecDepth 100000 in
set_option maxHeartbeats 16000000 in
theorem matters_err (n : Int) (a : Option Addr) (m cap : Nat) (q : Int) (L : List Ch.Lk) (hm : Hid (L.length = m)) (hli : Hid ((decide (m ≤ 45) && decide (n ≤ 14)) = true)) (k : Nat) (hA : Ch.EA n L k) (hc : ¬ (Ch.check n L).1 = 0) (w : World) (hL : Hid (LksAt w a L)) :
    Calls Try.prog 6 #[sysV n a m cap, .int .i64 q] w (LawPost w) := by
  have HSm := Lib.hid fun (W : World) => light_any n a m cap true hli W
  have HSa := Lib.hid fun (W : World) => sanity_any W
  have hm9 : m ≤ 45 := by
    have h := hli.out
    rw [Bool.and_eq_true, decide_eq_true_eq] at h
    exact h.1
  have HSl := Lib.hid fun (W : World) (h : SB w n a m cap L W) => slack_any n a cap L k q hA.en.en W h.l
  have HId := Lib.hid fun (W : World) (h : SB w n a m cap L W) => idle_any n a cap L k hA.en.en hA.idle_enough W h.l
  have HEr := Lib.hid fun (W : World) (h : SB w n a m cap L W) => rerror_any n a cap L W h.l
  have hop : Ch.opn n L [] k = (Ch.check n L).1 := by unfold Ch.opn Ch.openE; rw [if_pos hc]
  have hsl : Ch.slack n L k q = (0, (Ch.check n L).1) := by unfold Ch.slack; rw [if_pos hc]
  have hsu : Ch.suspE n L k [] = ([], (Ch.check n L).1) := by unfold Ch.suspE; rw [if_pos hc]
  have hre : Ch.reduce n L k = ([], (Ch.check n L).1) := by unfold Ch.reduce; rw [hop, if_pos hc]
  have HSu := Lib.hid fun (W : World) (h : SB w n a m cap L W) => suspects_any n a cap L k hA.en.en (fun h => absurd h hc) [] [] (fun h => absurd h hc) [] _ hsu W h.l
  have HRe := Lib.hid fun (W : World) (h : SB w n a m cap L W) => reduce_any n a cap L k hA.en.en hA.rd_enough [] _ hre W h.l
  rw [hsl] at HSl
  rw [hop, if_neg hc] at HId
  rw [hm.out] at HSl HId HEr HSu HRe
  obtain ⟨ec, hec⟩ : ∃ ec, (Ch.check n L).1 = ec := ⟨_, rfl⟩
  rw [hec] at HSl HId HEr HSu HRe hc
  have g1 : (ec != 0) = true := by rw [bne_iff_ne]; exact hc
  have g4 : (ec == ec) = true := by simp
  replace hc := Lib.hid hc
  unfold sysV at *
  clear hA hop hsl hsu hre hec hli
  go_enter Try.func6, Try.ntmps6
  go_wp2_with fail
  refine (HSm.out _).mono ?_
  rintro e w1 ⟨rfl, hb⟩
  have hB1 := bstep1 (Below.refl _ _) hb
  have hJ1 := Lib.hid (SB.mk (w := w) (n := n) (a := a) (m := m) (cap := cap) (W := w1) (kept1 (by simp [go_sem]) hb) (kept1 (by simp [go_sem]) hb) (hL.out.below hB1) hB1)
  clear hb hB1 HSm hL
  have k0 := hJ1.out.c0
  have k1 := hJ1.out.c1
  go_wp2_with fail
  refine (HSl.out _ hJ1.out).mono ?_
  rintro e w2 ⟨rfl, hb⟩
  have hJ2 := Lib.hid (hJ1.out.below hb)
  clear hb k0 k1 hJ1 HSl
  have k0 := hJ2.out.c0
  have k1 := hJ2.out.c1
  go_wp2_with fail
  refine (HSu.out _ hJ2.out).mono ?_
  rintro e w3 ⟨cv, rfl, hown, hb⟩
  obtain ⟨pA, cA, rfl, hIA, _⟩ := ints_of_own0 hown
  have hJ3 := Lib.hid (hJ2.out.below hb)
  have hA3 := Lib.hid hIA
  clear hb k0 k1 hJ2 hown hIA HSu
  have k0 := hJ3.out.c0
  have k1 := hJ3.out.c1
  go_wp2_with fail
  refine (HId.out _ hJ3.out).mono ?_
  rintro e w4 ⟨dv, rfl, hown, hb⟩
  obtain ⟨pB, cB, rfl, hIB, _⟩ := ints_of_own0 hown
  have hJ4 := Lib.hid (hJ3.out.below hb)
  have hA4 := Lib.hid (hA3.out.below hb)
  have hB4 := Lib.hid hIB
  clear hb k0 k1 hJ3 hA3 hown hIB HId
  have k0 := hJ4.out.c0
  have k1 := hJ4.out.c1
  go_wp2_with fail
  refine (HRe.out _ hJ4.out).mono ?_
  rintro e w5 ⟨ev, rfl, hown, hb⟩
  obtain ⟨pC, cC, rfl, hIC, _⟩ := ints_of_own0 hown
  have hJ5 := Lib.hid (hJ4.out.below hb)
  have hA5 := Lib.hid (hA4.out.below hb)
  have hB5 := Lib.hid (hB4.out.below hb)
  have hC5 := Lib.hid hIC
  clear hb k0 k1 hJ4 hA4 hB4 hown hIC HRe
  have k0 := hJ5.out.c0
  have k1 := hJ5.out.c1
  go_wp2_with fail
  refine (HEr.out _ hJ5.out).mono ?_
  rintro e w6 ⟨rfl, hb⟩
  have hJ6 := Lib.hid (hJ5.out.below hb)
  have hA6 := Lib.hid (hA5.out.below hb)
  have hB6 := Lib.hid (hB5.out.below hb)
  have hC6 := Lib.hid (hC5.out.below hb)
  clear hb k0 k1 hJ5 hA5 hB5 hC5 HEr
  go_wp2_with fail
  refine (HSa.out _).mono ?_
  rintro e w99 ⟨rfl, hb⟩
  have hB := (hJ6.out.b).trans (hb.mono (hJ6.out.b).size)
  clear hb hJ6 hA6 hB6 hC6
  go_wp2
  go_ret
  exact ⟨rfl, hB⟩
set_option linter.unusedSimpArgs false in
set_option maxRecDepth 100000 in
set_option maxHeartbeats 16000000 in
theorem matters_no0 (n : Int) (a : Option Addr) (m cap : Nat) (q : Int) (L : List Ch.Lk) (hm : Hid (L.length = m)) (hli : Hid ((decide (m ≤ 45) && decide (n ≤ 14)) = true)) (k : Nat) (hA : Ch.EA n L k) (hc : (Ch.check n L).1 = 0) (hk : Ch.cons n.toNat L [] k = false) (hq : Ch.isIx q m = false) (w : World) (hL : Hid (LksAt w a L)) :
    Calls Try.prog 6 #[sysV n a m cap, .int .i64 q] w (LawPost w) := by
  have HSm := Lib.hid fun (W : World) => light_any n a m cap true hli W
  have HSa := Lib.hid fun (W : World) => sanity_any W
  have hm9 : m ≤ 45 := by
    have h := hli.out
    rw [Bool.and_eq_true, decide_eq_true_eq] at h
    exact h.1
  have HSl := Lib.hid fun (W : World) (h : SB w n a m cap L W) => slack_any n a cap L k q hA.en.en W h.l
  have HId := Lib.hid fun (W : World) (h : SB w n a m cap L W) => idle_any n a cap L k hA.en.en hA.idle_enough W h.l
  have HEr := Lib.hid fun (W : World) (h : SB w n a m cap L W) => rerror_any n a cap L W h.l
  have HSi := Lib.hid fun (W : World) (ls : List Nat) (hl : ls.length ≤ 1000) (x y : Option Addr) (c1 c2 : Nat) (hx : IntsAt W x (Ch.ints ls)) (hy : IntsAt W y (Ch.ints ls)) => sameInts_same ls hl x y c1 c2 W hx hy
  obtain ⟨n1, n2, n3, hok⟩ := Ch.check_ok hc
  have hno : ¬ ∃ σ, Ch.Sol L [] σ := fun h => by
    have := (hA.en.sol hc).2 h
    rw [hk] at this; cases this
  obtain ⟨c, hc9, _⟩ := Ch.clash_ex (n := n.toNat) (by omega) (by rw [show ((n.toNat : Nat) : Int) = n by omega]; exact hok) hno
  obtain ⟨s, hs1, hs2, hs3, hs4⟩ := Ch.susp_list hA hc hno hc9
  have hop : Ch.opn n L [] k = 9 := by rw [Ch.opn_nil hc, hk]; rfl
  have hsu : Ch.suspE n L k s = (Ch.suK n.toNat L k L.length, 0) := by unfold Ch.suspE; rw [if_neg (fun h => h hc), hk, hs4]; rfl
  have hre : Ch.reduce n L k = ([], 9) := by unfold Ch.reduce; rw [hop, if_pos (by decide)]
  have hsl : Ch.slack n L k q = (0, 1) := slack_out hc (by rw [hm.out]; exact hq)
  have hq9 : q < 0 ∨ (m : Int) ≤ q := by
    simp [Ch.isIx] at hq
    omega
  have hlen := Ch.suK_len n.toNat L k L.length
  have HSu := Lib.hid fun (W : World) (h : SB w n a m cap L W) => suspects_any n a cap L k hA.en.en (ea_levels hA) c s (fun _ _ => ⟨hc9, hs1, hs2, hs3⟩) _ _ hsu W h.l
  have HRe := Lib.hid fun (W : World) (h : SB w n a m cap L W) => reduce_any n a cap L k hA.en.en hA.rd_enough [] _ hre W h.l
  have HRs := Lib.hid fun (W : World) (h : SB w n a m cap L W) => rsuspects_any n a m cap L hm k hA hc hno W (Lib.hid h.l)
  have HRt := Lib.hid fun (W : World) (h : SB w n a m cap L W) => rtight_any n a m cap L hm hc W (Lib.hid h.l)
  rw [hsl] at HSl
  rw [hop, if_neg (by decide)] at HId
  rw [hc] at HEr
  rw [hm.out] at HSl HId HEr HSu HRe hlen
  obtain ⟨SU, hSU⟩ : ∃ SU, Ch.suK n.toNat L k m = SU := ⟨_, rfl⟩
  rw [hSU] at HSu HRs hlen
  replace hno := Lib.hid hno
  replace hlen := Lib.hid hlen
  unfold sysV at *
  clear hA hop hsl hsu hre hli hc hk hok hc9 hs1 hs2 hs3 hs4 hSU hq
  go_enter Try.func6, Try.ntmps6
  go_wp2_with fail
  refine (HSm.out _).mono ?_
  rintro e w1 ⟨rfl, hb⟩
  have hB1 := bstep1 (Below.refl _ _) hb
  have hJ1 := Lib.hid (SB.mk (w := w) (n := n) (a := a) (m := m) (cap := cap) (W := w1) (kept1 (by simp [go_sem]) hb) (kept1 (by simp [go_sem]) hb) (hL.out.below hB1) hB1)
  clear hb hB1 HSm hL
  have k0 := hJ1.out.c0
  have k1 := hJ1.out.c1
  go_wp2_with fail
  refine (HSl.out _ hJ1.out).mono ?_
  rintro e w2 ⟨rfl, hb⟩
  have hJ2 := Lib.hid (hJ1.out.below hb)
  clear hb k0 k1 hJ1 HSl
  have k0 := hJ2.out.c0
  have k1 := hJ2.out.c1
  go_wp2_with fail
  refine (HSu.out _ hJ2.out).mono ?_
  rintro e w3 ⟨cv, rfl, hown, hb⟩
  obtain ⟨pA, cA, rfl, hIA, _⟩ := ints_of_own hown
  have hJ3 := Lib.hid (hJ2.out.below hb)
  have hA3 := Lib.hid hIA
  clear hb k0 k1 hJ2 hown hIA HSu
  have k0 := hJ3.out.c0
  have k1 := hJ3.out.c1
  go_wp2_with fail
  refine (HId.out _ hJ3.out).mono ?_
  rintro e w4 ⟨dv, rfl, hown, hb⟩
  obtain ⟨pB, cB, rfl, hIB, _⟩ := ints_of_own0 hown
  have hJ4 := Lib.hid (hJ3.out.below hb)
  have hA4 := Lib.hid (hA3.out.below hb)
  have hB4 := Lib.hid hIB
  clear hb k0 k1 hJ3 hA3 hown hIB HId
  have k0 := hJ4.out.c0
  have k1 := hJ4.out.c1
  go_wp2_with fail
  refine (HRe.out _ hJ4.out).mono ?_
  rintro e w5 ⟨ev, rfl, hown, hb⟩
  obtain ⟨pC, cC, rfl, hIC, _⟩ := ints_of_own0 hown
  have hJ5 := Lib.hid (hJ4.out.below hb)
  have hA5 := Lib.hid (hA4.out.below hb)
  have hB5 := Lib.hid (hB4.out.below hb)
  have hC5 := Lib.hid hIC
  clear hb k0 k1 hJ4 hA4 hB4 hown hIC HRe
  have k0 := hJ5.out.c0
  have k1 := hJ5.out.c1
  go_wp2_with fail
  refine (HEr.out _ hJ5.out).mono ?_
  rintro e w6 ⟨rfl, hb⟩
  have hJ6 := Lib.hid (hJ5.out.below hb)
  have hA6 := Lib.hid (hA5.out.below hb)
  have hB6 := Lib.hid (hB5.out.below hb)
  have hC6 := Lib.hid (hC5.out.below hb)
  clear hb k0 k1 hJ5 hA5 hB5 hC5 HEr
  have k0 := hJ6.out.c0
  have k1 := hJ6.out.c1
  go_wp2_with fail
  refine (HRs.out _ hJ6.out).mono ?_
  rintro e w7 ⟨fv, rfl, hown, hb⟩
  obtain ⟨pD, cD, rfl, hID, _⟩ := ints_of_own hown
  have hJ7 := Lib.hid (hJ6.out.below hb)
  have hA7 := Lib.hid (hA6.out.below hb)
  have hB7 := Lib.hid (hB6.out.below hb)
  have hC7 := Lib.hid (hC6.out.below hb)
  have hD7 := Lib.hid hID
  clear hb k0 k1 hJ6 hA6 hB6 hC6 hown hID HRs
  have k0 := hJ7.out.c0
  have k1 := hJ7.out.c1
  go_wp2_with fail
  refine (HSi.out w7 SU (by have := hlen.out; omega) pA pD cA cD hA7.out hD7.out).mono ?_
  rintro e w8 ⟨rfl, hb⟩
  have hJ8 := Lib.hid (hJ7.out.below hb)
  have hA8 := Lib.hid (hA7.out.below hb)
  have hB8 := Lib.hid (hB7.out.below hb)
  have hC8 := Lib.hid (hC7.out.below hb)
  have hD8 := Lib.hid (hD7.out.below hb)
  clear hb k0 k1 hJ7 hA7 hB7 hC7 hD7
  have k0 := hJ8.out.c0
  have k1 := hJ8.out.c1
  go_wp2_with fail
  refine (HRt.out _ hJ8.out).mono ?_
  rintro e w9 ⟨hb, h⟩
  obtain ⟨_, rfl⟩ := h.resolve_right (fun h => hno.out h.1)
  have hJ9 := Lib.hid (hJ8.out.below hb)
  have hA9 := Lib.hid (hA8.out.below hb)
  have hB9 := Lib.hid (hB8.out.below hb)
  have hC9 := Lib.hid (hC8.out.below hb)
  have hD9 := Lib.hid (hD8.out.below hb)
  clear hb k0 k1 hJ8 hA8 hB8 hC8 hD8 HRt h hno
  rcases hq9 with hq1 | hq1
  · have k0 := hJ9.out.c0
    have k1 := hJ9.out.c1
    have HQ := Lib.hid fun nq => below_drewN (Below.refl w9.heap.size w9) nq
    go_upto_region 20 with fail
    clear k0 k1
    go_quiet (fail)
    have hb := HQ.out nq
    have hJ10 := Lib.hid (hJ9.out.below hb)
    have hA10 := Lib.hid (hA9.out.below hb)
    have hB10 := Lib.hid (hB9.out.below hb)
    have hC10 := Lib.hid (hC9.out.below hb)
    have hD10 := Lib.hid (hD9.out.below hb)
    clear hb HQ hJ9 hA9 hB9 hC9 hD9
    generalize w9.drewN nq = w10 at *
    go_wp2_with fail
    refine (HSa.out _).mono ?_
    rintro e w99 ⟨rfl, hb⟩
    have hB := (hJ10.out.b).trans (hb.mono (hJ10.out.b).size)
    clear hb
    go_wp2
    go_ret
    exact ⟨rfl, hB⟩
  · have hq2 : ¬ q < 0 := by omega
    have k0 := hJ9.out.c0
    have k1 := hJ9.out.c1
    have HQ := Lib.hid fun nq => below_drewN (Below.refl w9.heap.size w9) nq
    go_upto_region 20 with fail
    clear k0 k1
    go_quiet (fail)
    have hb := HQ.out nq
    have hJ10 := Lib.hid (hJ9.out.below hb)
    have hA10 := Lib.hid (hA9.out.below hb)
    have hB10 := Lib.hid (hB9.out.below hb)
    have hC10 := Lib.hid (hC9.out.below hb)
    have hD10 := Lib.hid (hD9.out.below hb)
    clear hb HQ hJ9 hA9 hB9 hC9 hD9
    generalize w9.drewN nq = w10 at *
    go_wp2_with fail
    refine (HSa.out _).mono ?_
    rintro e w99 ⟨rfl, hb⟩
    have hB := (hJ10.out.b).trans (hb.mono (hJ10.out.b).size)
    clear hb
    go_wp2
    go_ret
    exact ⟨rfl, hB⟩
set_option linter.unusedSimpArgs false in
set_option maxRecDepth 100000 in
set_option maxHeartbeats 16000000 in
theorem matters_no1 (n : Int) (a : Option Addr) (m cap : Nat) (q : Int) (L : List Ch.Lk) (hm : Hid (L.length = m)) (hli : Hid ((decide (m ≤ 45) && decide (n ≤ 14)) = true)) (k : Nat) (hA : Ch.EA n L k) (hc : (Ch.check n L).1 = 0) (hk : Ch.cons n.toNat L [] k = false) (hq : Ch.isIx q m = true) (w : World) (hL : Hid (LksAt w a L)) :
    Calls Try.prog 6 #[sysV n a m cap, .int .i64 q] w (LawPost w) := by
  have HSm := Lib.hid fun (W : World) => light_any n a m cap true hli W
  have HSa := Lib.hid fun (W : World) => sanity_any W
  have hm9 : m ≤ 45 := by
    have h := hli.out
    rw [Bool.and_eq_true, decide_eq_true_eq] at h
    exact h.1
  have HSl := Lib.hid fun (W : World) (h : SB w n a m cap L W) => slack_any n a cap L k q hA.en.en W h.l
  have HId := Lib.hid fun (W : World) (h : SB w n a m cap L W) => idle_any n a cap L k hA.en.en hA.idle_enough W h.l
  have HEr := Lib.hid fun (W : World) (h : SB w n a m cap L W) => rerror_any n a cap L W h.l
  have HSi := Lib.hid fun (W : World) (ls : List Nat) (hl : ls.length ≤ 1000) (x y : Option Addr) (c1 c2 : Nat) (hx : IntsAt W x (Ch.ints ls)) (hy : IntsAt W y (Ch.ints ls)) => sameInts_same ls hl x y c1 c2 W hx hy
  obtain ⟨n1, n2, n3, hok⟩ := Ch.check_ok hc
  have hno : ¬ ∃ σ, Ch.Sol L [] σ := fun h => by
    have := (hA.en.sol hc).2 h
    rw [hk] at this; cases this
  obtain ⟨c, hc9, _⟩ := Ch.clash_ex (n := n.toNat) (by omega) (by rw [show ((n.toNat : Nat) : Int) = n by omega]; exact hok) hno
  obtain ⟨s, hs1, hs2, hs3, hs4⟩ := Ch.susp_list hA hc hno hc9
  have hop : Ch.opn n L [] k = 9 := by rw [Ch.opn_nil hc, hk]; rfl
  have hsu : Ch.suspE n L k s = (Ch.suK n.toNat L k L.length, 0) := by unfold Ch.suspE; rw [if_neg (fun h => h hc), hk, hs4]; rfl
  have hre : Ch.reduce n L k = ([], 9) := by unfold Ch.reduce; rw [hop, if_pos (by decide)]
  simp [Ch.isIx] at hq
  obtain ⟨i, rfl⟩ : ∃ i : Nat, q = (i : Int) := ⟨q.toNat, by omega⟩
  have hsl : Ch.slack n L k (i : Int) = (0, 9) := by rw [slack_bad hc (by have := hm.out; omega) (by rw [hop]; decide), hop]
  have hq1 : ¬ (i : Int) < 0 := by omega
  have hq2 : ¬ (m : Int) ≤ (i : Int) := by omega
  have hq3 : ¬ m ≤ i := by omega
  have hlen := Ch.suK_len n.toNat L k L.length
  have HSu := Lib.hid fun (W : World) (h : SB w n a m cap L W) => suspects_any n a cap L k hA.en.en (ea_levels hA) c s (fun _ _ => ⟨hc9, hs1, hs2, hs3⟩) _ _ hsu W h.l
  have HRe := Lib.hid fun (W : World) (h : SB w n a m cap L W) => reduce_any n a cap L k hA.en.en hA.rd_enough [] _ hre W h.l
  have HRs := Lib.hid fun (W : World) (h : SB w n a m cap L W) => rsuspects_any n a m cap L hm k hA hc hno W (Lib.hid h.l)
  have HRt := Lib.hid fun (W : World) (h : SB w n a m cap L W) => rtight_any n a m cap L hm hc W (Lib.hid h.l)
  rw [hsl] at HSl
  rw [hop, if_neg (by decide)] at HId
  rw [hc] at HEr
  rw [hm.out] at HSl HId HEr HSu HRe hlen
  obtain ⟨SU, hSU⟩ : ∃ SU, Ch.suK n.toNat L k m = SU := ⟨_, rfl⟩
  rw [hSU] at HSu HRs hlen
  replace hno := Lib.hid hno
  replace hlen := Lib.hid hlen
  unfold sysV at *
  clear hA hop hsl hsu hre hli hc hk hok hc9 hs1 hs2 hs3 hs4 hSU
  go_enter Try.func6, Try.ntmps6
  go_wp2_with fail
  refine (HSm.out _).mono ?_
  rintro e w1 ⟨rfl, hb⟩
  have hB1 := bstep1 (Below.refl _ _) hb
  have hJ1 := Lib.hid (SB.mk (w := w) (n := n) (a := a) (m := m) (cap := cap) (W := w1) (kept1 (by simp [go_sem]) hb) (kept1 (by simp [go_sem]) hb) (hL.out.below hB1) hB1)
  clear hb hB1 HSm hL
  have k0 := hJ1.out.c0
  have k1 := hJ1.out.c1
  go_wp2_with fail
  refine (HSl.out _ hJ1.out).mono ?_
  rintro e w2 ⟨rfl, hb⟩
  have hJ2 := Lib.hid (hJ1.out.below hb)
  clear hb k0 k1 hJ1 HSl
  have k0 := hJ2.out.c0
  have k1 := hJ2.out.c1
  go_wp2_with fail
  refine (HSu.out _ hJ2.out).mono ?_
  rintro e w3 ⟨cv, rfl, hown, hb⟩
  obtain ⟨pA, cA, rfl, hIA, _⟩ := ints_of_own hown
  have hJ3 := Lib.hid (hJ2.out.below hb)
  have hA3 := Lib.hid hIA
  clear hb k0 k1 hJ2 hown hIA HSu
  have k0 := hJ3.out.c0
  have k1 := hJ3.out.c1
  go_wp2_with fail
  refine (HId.out _ hJ3.out).mono ?_
  rintro e w4 ⟨dv, rfl, hown, hb⟩
  obtain ⟨pB, cB, rfl, hIB, _⟩ := ints_of_own0 hown
  have hJ4 := Lib.hid (hJ3.out.below hb)
  have hA4 := Lib.hid (hA3.out.below hb)
  have hB4 := Lib.hid hIB
  clear hb k0 k1 hJ3 hA3 hown hIB HId
  have k0 := hJ4.out.c0
  have k1 := hJ4.out.c1
  go_wp2_with fail
  refine (HRe.out _ hJ4.out).mono ?_
  rintro e w5 ⟨ev, rfl, hown, hb⟩
  obtain ⟨pC, cC, rfl, hIC, _⟩ := ints_of_own0 hown
  have hJ5 := Lib.hid (hJ4.out.below hb)
  have hA5 := Lib.hid (hA4.out.below hb)
  have hB5 := Lib.hid (hB4.out.below hb)
  have hC5 := Lib.hid hIC
  clear hb k0 k1 hJ4 hA4 hB4 hown hIC HRe
  have k0 := hJ5.out.c0
  have k1 := hJ5.out.c1
  go_wp2_with fail
  refine (HEr.out _ hJ5.out).mono ?_
  rintro e w6 ⟨rfl, hb⟩
  have hJ6 := Lib.hid (hJ5.out.below hb)
  have hA6 := Lib.hid (hA5.out.below hb)
  have hB6 := Lib.hid (hB5.out.below hb)
  have hC6 := Lib.hid (hC5.out.below hb)
  clear hb k0 k1 hJ5 hA5 hB5 hC5 HEr
  have k0 := hJ6.out.c0
  have k1 := hJ6.out.c1
  go_wp2_with fail
  refine (HRs.out _ hJ6.out).mono ?_
  rintro e w7 ⟨fv, rfl, hown, hb⟩
  obtain ⟨pD, cD, rfl, hID, _⟩ := ints_of_own hown
  have hJ7 := Lib.hid (hJ6.out.below hb)
  have hA7 := Lib.hid (hA6.out.below hb)
  have hB7 := Lib.hid (hB6.out.below hb)
  have hC7 := Lib.hid (hC6.out.below hb)
  have hD7 := Lib.hid hID
  clear hb k0 k1 hJ6 hA6 hB6 hC6 hown hID HRs
  have k0 := hJ7.out.c0
  have k1 := hJ7.out.c1
  go_wp2_with fail
  refine (HSi.out w7 SU (by have := hlen.out; omega) pA pD cA cD hA7.out hD7.out).mono ?_
  rintro e w8 ⟨rfl, hb⟩
  have hJ8 := Lib.hid (hJ7.out.below hb)
  have hA8 := Lib.hid (hA7.out.below hb)
  have hB8 := Lib.hid (hB7.out.below hb)
  have hC8 := Lib.hid (hC7.out.below hb)
  have hD8 := Lib.hid (hD7.out.below hb)
  clear hb k0 k1 hJ7 hA7 hB7 hC7 hD7
  have k0 := hJ8.out.c0
  have k1 := hJ8.out.c1
  go_wp2_with fail
  refine (HRt.out _ hJ8.out).mono ?_
  rintro e w9 ⟨hb, h⟩
  obtain ⟨_, rfl⟩ := h.resolve_right (fun h => hno.out h.1)
  have hJ9 := Lib.hid (hJ8.out.below hb)
  have hA9 := Lib.hid (hA8.out.below hb)
  have hB9 := Lib.hid (hB8.out.below hb)
  have hC9 := Lib.hid (hC8.out.below hb)
  have hD9 := Lib.hid (hD8.out.below hb)
  clear hb k0 k1 hJ8 hA8 hB8 hC8 hD8 HRt h hno
  have k0 := hJ9.out.c0
  have k1 := hJ9.out.c1
  have HQ := Lib.hid fun nq => below_drewN (Below.refl w9.heap.size w9) nq
  go_upto_region 20 with fail
  clear k0 k1
  go_quiet (fail)
  have hb := HQ.out nq
  have hJ10 := Lib.hid (hJ9.out.below hb)
  have hA10 := Lib.hid (hA9.out.below hb)
  have hB10 := Lib.hid (hB9.out.below hb)
  have hC10 := Lib.hid (hC9.out.below hb)
  have hD10 := Lib.hid (hD9.out.below hb)
  clear hb HQ hJ9 hA9 hB9 hC9 hD9
  generalize w9.drewN nq = w10 at *
  go_wp2_with fail
  refine (HSa.out _).mono ?_
  rintro e w99 ⟨rfl, hb⟩
  have hB := (hJ10.out.b).trans (hb.mono (hJ10.out.b).size)
  clear hb hJ10 hA10 hB10 hC10 hD10
  go_wp2
  go_ret
  exact ⟨rfl, hB⟩
end Go.Proofs.Ytkcchangkhklcaa
