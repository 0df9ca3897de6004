/- Several texts one behind the other. -/
import Derived.Test.YtkcchangkhklcaaZLgh
import Derived.Test.YtkcchangkhklcaaZLga
import Derived.Test.YtkcchangkhklcaaZLgb
set_option linter.unusedSimpArgs false
set_option linter.unusedVariables false
/- The law ChainMatters: a consistent system, and a bound. -/
namespace Go.Proofs.Ytkcchangkhklcaa
open Go.RowKit

set_option linter.unusedSimpArgs false in
set_option maxRecDepth 100000 in
set_option maxHeartbeats 16000000 in
theorem matters_yes2 (n : Int) (a : Option Addr) (m cap : Nat) (q : Int) (L : List Ch.Lk) (hm : Hid (L.length = m)) (hli : Hid ((decide (m ≤ 45) && decide (n ≤ 14)) = true)) (k : Nat) (hA : Ch.EA n L k) (hc : (Ch.check n L).1 = 0) (ho : Ch.opn n L [] k = 0) (i : Nat) (hqi : q = (i : Int)) (hi : i < m) (hf : ¬ Ch.tb n L k (L.getD i Ch.noLk).t.toNat (L.getD i Ch.noLk).f.toNat = 1152921504606846976) (w : World) (hL : Hid (LksAt w a L)) :
    Calls Try.prog 6 #[sysV n a m cap, .int .i64 q] w (LawPost w) := by
  subst hqi
  have HSm := Lib.hid fun (W : World) => light_any n a m cap true hli W
  have HSa := Lib.hid fun (W : World) => sanity_any W
  have hm9 : m ≤ 45 := by
    have h := hli.out
    rw [Bool.and_eq_true, decide_eq_true_eq] at h
    exact h.1
  have HSl := Lib.hid fun (W : World) (h : SB w n a m cap L W) => slack_any n a cap L k (i : Int) hA.en.en W h.l
  have HId := Lib.hid fun (W : World) (h : SB w n a m cap L W) => idle_any n a cap L k hA.en.en hA.idle_enough W h.l
  have HEr := Lib.hid fun (W : World) (h : SB w n a m cap L W) => rerror_any n a cap L W h.l
  have HSi := Lib.hid fun (W : World) (ls : List Nat) (hl : ls.length ≤ 1000) (x y : Option Addr) (c1 c2 : Nat) (hx : IntsAt W x (Ch.ints ls)) (hy : IntsAt W y (Ch.ints ls)) => sameInts_same ls hl x y c1 c2 W hx hy
  have HSn := Lib.hid fun (W : World) (x y : Option Addr) (c1 c2 : Nat) => sameInts_nil x y c1 c2 W
  obtain ⟨n1, n2, n3, hok⟩ := Ch.check_ok hc
  have hyes := hA.en.cons hc (Ch.opn_ok ho).2.2
  have hsu : Ch.suspE n L k [] = ([], 0) := by unfold Ch.suspE; rw [if_neg (fun h => h hc), if_pos (Ch.opn_ok ho).2.2]
  have hsl := slack_ok hc (i := i) (by have := hm.out; omega) ho hf
  have hq1 : ¬ (i : Int) < 0 := by omega
  have hq0 : (0 : Int) ≤ (i : Int) := by omega
  have hq2 : ¬ (m : Int) ≤ (i : Int) := by omega
  have hq3 : ¬ m ≤ i := by omega
  have hq4 : (i : Int) < (m : Int) := by omega
  have hok1 := Ch.okLk_spec (hok i (by have := hm.out; omega))
  obtain ⟨_, _, hTB⟩ := Ch.tb_of hA.en ho
  have hrg := hTB.range (u := (L.getD i Ch.noLk).t.toNat) (v := (L.getD i Ch.noLk).f.toNat) (by omega) (by omega)
  have hil := Ch.idleK_len n.toNat L k L.length
  have hrl := Ch.leftK_len (Ch.rd n.toNat L k L.length) L.length
  have hft : ∀ x y, x < n.toNat → y < n.toNat → Ch.fyT n.toNat L x y = Ch.tb n L k x y := fun x y hx hy => Ch.fyT_tb hA.en ho hx hy
  have HSu := Lib.hid fun (W : World) (h : SB w n a m cap L W) => suspects_any n a cap L k hA.en.en (ea_levels hA) [] [] (fun _ h => by rw [(Ch.opn_ok ho).2.2] at h; cases h) _ _ hsu W h.l
  have HRe := Lib.hid fun (W : World) (h : SB w n a m cap L W) => reduce_any n a cap L k hA.en.en hA.rd_enough _ _ (Ch.EA.reduce ho) W h.l
  have HRs := Lib.hid fun (W : World) (h : SB w n a m cap L W) => rsuspects_yes n a m cap L hm hc hyes W (Lib.hid h.l)
  have HRt := Lib.hid fun (W : World) (h : SB w n a m cap L W) => rtight_any n a m cap L hm hc W (Lib.hid h.l)
  have HRi := Lib.hid fun (W : World) (h : SB w n a m cap L W) => ridle_any n a m cap L hm k hA ho W (Lib.hid h.l)
  have HRr := Lib.hid fun (W : World) (h : SB w n a m cap L W) => rreduce_any n a m cap L hm k hA ho W (Lib.hid h.l)
  rw [hsl] at HSl
  rw [ho, if_pos rfl] at HId
  rw [hc] at HEr
  rw [hm.out] at HSl HId HEr HSu HRe hil hrl
  obtain ⟨ID, hID⟩ : ∃ ID, Ch.idleK n.toNat L k m = ID := ⟨_, rfl⟩
  obtain ⟨RE, hRE⟩ : ∃ RE, Ch.leftK (Ch.rd n.toNat L k m) m = RE := ⟨_, rfl⟩
  rw [hID] at HId HRi hil
  rw [hRE] at HRe HRr hrl
  obtain ⟨N, rfl⟩ : ∃ N : Nat, n = (N : Int) := ⟨n.toNat, by omega⟩
  simp only [Int.toNat_natCast] at *
  obtain ⟨f, t, mo, hlk⟩ : ∃ f t mo, L.getD i Ch.noLk = ⟨f, t, mo⟩ := ⟨_, _, _, rfl⟩
  rw [hlk] at hok1 hrg hf HSl
  simp only at hok1 hrg hf HSl
  obtain ⟨o1, o2, o3, o4, _, o6, o7⟩ := hok1
  obtain ⟨p, rfl⟩ : ∃ u : Nat, t = (u : Int) := ⟨t.toNat, by omega⟩
  obtain ⟨z, rfl⟩ : ∃ u : Nat, f = (u : Int) := ⟨f.toNat, by omega⟩
  simp only [Int.toNat_natCast] at *
  have hp : p < N := by omega
  have hz : z < N := by omega
  have hp0 : (0 : Int) ≤ (p : Int) := by omega
  have hz0 : (0 : Int) ≤ (z : Int) := by omega
  have hp1 : (p : Int) < (N : Int) := by omega
  have hz1 : (z : Int) < (N : Int) := by omega
  obtain ⟨b, hb9⟩ : ∃ b, Ch.tb (N : Int) L k p z = b := ⟨_, rfl⟩
  rw [hb9] at hrg hf HSl
  obtain ⟨D, hD⟩ : ∃ D, Ch.tb (N : Int) L k = D := ⟨_, rfl⟩
  rw [hD] at hft hb9
  replace hft := Lib.hid hft
  replace hb9 := Lib.hid hb9
  replace hlk := Lib.hid hlk
  have e1 : (b == 1152921504606846976) = false := by rw [beq_eq_false_iff_ne]; exact hf
  have hwr : IntKind.i64.wrap (mo + b) = mo + b := wrap_ok (by omega) (by omega)
  have hcm : b + mo = mo + b := by omega
  rw [hcm] at HSl
  have e2 : (mo + b != mo + b) = false := by simp
  clear hrg hcm
  replace hyes := Lib.hid hyes
  replace hil := Lib.hid hil
  replace hrl := Lib.hid hrl
  unfold sysV at *
  clear hA ho hsl hsu hli hc hok hID hRE hTB hD
  go_enter Try.func6, Try.ntmps6
  go_wp2_with fail
  refine (HSm.out _).mono ?_
  rintro e w1 ⟨rfl, hb⟩
  have hB1 := bstep1 (Below.refl _ _) hb
  have hJ1 := Lib.hid (SB.mk (w := w) (n := (N : Int)) (a := a) (m := m) (cap := cap) (W := w1) (kept1 (by simp [go_sem]) hb) (kept1 (by simp [go_sem]) hb) (hL.out.below hB1) hB1)
  clear hb hB1 HSm hL
  have k0 := hJ1.out.c0
  have k1 := hJ1.out.c1
  go_wp2_with fail
  refine (HSl.out _ hJ1.out).mono ?_
  rintro e w2 ⟨rfl, hb⟩
  have hJ2 := Lib.hid (hJ1.out.below hb)
  clear hb k0 k1 hJ1 HSl
  have k0 := hJ2.out.c0
  have k1 := hJ2.out.c1
  go_wp2_with fail
  refine (HSu.out _ hJ2.out).mono ?_
  rintro e w3 ⟨cv, rfl, hown, hb⟩
  obtain ⟨pA, cA, rfl, hIA, _⟩ := ints_of_own0 hown
  have hJ3 := Lib.hid (hJ2.out.below hb)
  have hA3 := Lib.hid hIA
  clear hb k0 k1 hJ2 hown hIA HSu
  have k0 := hJ3.out.c0
  have k1 := hJ3.out.c1
  go_wp2_with fail
  refine (HId.out _ hJ3.out).mono ?_
  rintro e w4 ⟨dv, rfl, hown, hb⟩
  obtain ⟨pB, cB, rfl, hIB, _⟩ := ints_of_own hown
  have hJ4 := Lib.hid (hJ3.out.below hb)
  have hA4 := Lib.hid (hA3.out.below hb)
  have hB4 := Lib.hid hIB
  clear hb k0 k1 hJ3 hA3 hown hIB HId
  have k0 := hJ4.out.c0
  have k1 := hJ4.out.c1
  go_wp2_with fail
  refine (HRe.out _ hJ4.out).mono ?_
  rintro e w5 ⟨ev, rfl, hown, hb⟩
  obtain ⟨pC, cC, rfl, hIC, _⟩ := ints_of_own hown
  have hJ5 := Lib.hid (hJ4.out.below hb)
  have hA5 := Lib.hid (hA4.out.below hb)
  have hB5 := Lib.hid (hB4.out.below hb)
  have hC5 := Lib.hid hIC
  clear hb k0 k1 hJ4 hA4 hB4 hown hIC HRe
  have k0 := hJ5.out.c0
  have k1 := hJ5.out.c1
  go_wp2_with fail
  refine (HEr.out _ hJ5.out).mono ?_
  rintro e w6 ⟨rfl, hb⟩
  have hJ6 := Lib.hid (hJ5.out.below hb)
  have hA6 := Lib.hid (hA5.out.below hb)
  have hB6 := Lib.hid (hB5.out.below hb)
  have hC6 := Lib.hid (hC5.out.below hb)
  clear hb k0 k1 hJ5 hA5 hB5 hC5 HEr
  have k0 := hJ6.out.c0
  have k1 := hJ6.out.c1
  go_wp2_with fail
  refine (HRs.out _ hJ6.out).mono ?_
  rintro e w7 ⟨fv, rfl, hown, hb⟩
  obtain ⟨pD, cD, rfl, hID, _⟩ := ints_of_own0 hown
  have hJ7 := Lib.hid (hJ6.out.below hb)
  have hA7 := Lib.hid (hA6.out.below hb)
  have hB7 := Lib.hid (hB6.out.below hb)
  have hC7 := Lib.hid (hC6.out.below hb)
  have hD7 := Lib.hid hID
  clear hb k0 k1 hJ6 hA6 hB6 hC6 hown hID HRs
  have k0 := hJ7.out.c0
  have k1 := hJ7.out.c1
  go_wp2_with fail
  refine (HSn.out w7 pA pD cA cD).mono ?_
  rintro e w8 ⟨rfl, hb⟩
  have hJ8 := Lib.hid (hJ7.out.below hb)
  have hA8 := Lib.hid (hA7.out.below hb)
  have hB8 := Lib.hid (hB7.out.below hb)
  have hC8 := Lib.hid (hC7.out.below hb)
  have hD8 := Lib.hid (hD7.out.below hb)
  clear hb k0 k1 hJ7 hA7 hB7 hC7 hD7 HSn
  have k0 := hJ8.out.c0
  have k1 := hJ8.out.c1
  go_wp2_with fail
  refine (HRt.out _ hJ8.out).mono ?_
  rintro e w9 ⟨hb, h⟩
  obtain ⟨_, ob, dc, R2, rfl, ht⟩ := h.resolve_left (fun h => h.1 hyes.out)
  have hJ9 := Lib.hid (hJ8.out.below hb)
  have hA9 := Lib.hid (hA8.out.below hb)
  have hB9 := Lib.hid (hB8.out.below hb)
  have hC9 := Lib.hid (hC8.out.below hb)
  have hD9 := Lib.hid (hD8.out.below hb)
  have hU9 := Lib.hid (ht.congr (fun x y hx hy => hft.out x y hx hy))
  clear hb k0 k1 hJ8 hA8 hB8 hC8 hD8 HRt h ht hyes hft
  have k0 := hJ9.out.c0
  have k1 := hJ9.out.c1
  obtain ⟨y9, hy9, g0, g1, g2⟩ := hJ9.out.l i (by have := hm.out; omega)
  subst hy9
  rw [hlk.out] at g0 g1 g2
  simp only at g0 g1 g2
  have d0 := hU9.out.o p hp
  have d1 := hU9.out.get hp hz
  rw [hb9.out] at d1
  have HQ := Lib.hid fun nq => below_drewN (Below.refl w9.heap.size w9) nq
  go_upto_region 18 with fail
  clear k0
  go_quiet (fail)
  have hb := HQ.out nq
  have hJ10 := Lib.hid (hJ9.out.below hb)
  have hA10 := Lib.hid (hA9.out.below hb)
  have hB10 := Lib.hid (hB9.out.below hb)
  have hC10 := Lib.hid (hC9.out.below hb)
  have hD10 := Lib.hid (hD9.out.below hb)
  have hU10 := Lib.hid (hU9.out.below hb)
  clear hb HQ k1 g0 g1 g2 d0 d1 hJ9 hA9 hB9 hC9 hD9 hU9
  generalize w9.drewN nq = w10 at *
  have k0 := hJ10.out.c0
  have k1 := hJ10.out.c1
  obtain ⟨y10, hy10, g0, g1, g2⟩ := hJ10.out.l i (by have := hm.out; omega)
  obtain rfl := Option.some.inj hy10
  rw [hlk.out] at g0 g1 g2
  simp only at g0 g1 g2
  have d0 := hU10.out.o p hp
  have d1 := hU10.out.get hp hz
  rw [hb9.out] at d1
  have HQ := Lib.hid fun nq => below_drewN (Below.refl w10.heap.size w10) nq
  go_upto_region 20 with fail
  clear k0
  go_quiet (fail)
  have hb := HQ.out nq
  have hJ11 := Lib.hid (hJ10.out.below hb)
  have hA11 := Lib.hid (hA10.out.below hb)
  have hB11 := Lib.hid (hB10.out.below hb)
  have hC11 := Lib.hid (hC10.out.below hb)
  have hD11 := Lib.hid (hD10.out.below hb)
  have hU11 := Lib.hid (hU10.out.below hb)
  clear hb HQ k1 g0 g1 g2 d0 d1 hJ10 hA10 hB10 hC10 hD10 hU10
  generalize w10.drewN nq = w11 at *
  have k0 := hJ11.out.c0
  have k1 := hJ11.out.c1
  go_wp2_with fail
  refine (HSa.out _).mono ?_
  rintro e w20 ⟨rfl, hb⟩
  have hJ20 := Lib.hid (hJ11.out.below hb)
  have hA20 := Lib.hid (hA11.out.below hb)
  have hB20 := Lib.hid (hB11.out.below hb)
  have hC20 := Lib.hid (hC11.out.below hb)
  have hD20 := Lib.hid (hD11.out.below hb)
  have hU20 := Lib.hid (hU11.out.below hb)
  clear hb k0 k1 hJ11 hA11 hB11 hC11 hD11 hU11 HSa
  have k0 := hJ20.out.c0
  have k1 := hJ20.out.c1
  go_wp2_with fail
  refine (HRi.out _ hJ20.out).mono ?_
  rintro e w21 ⟨gv, rfl, hown, hb⟩
  obtain ⟨pG, cG, rfl, hIG, _⟩ := ints_of_own hown
  have hJ21 := Lib.hid (hJ20.out.below hb)
  have hA21 := Lib.hid (hA20.out.below hb)
  have hB21 := Lib.hid (hB20.out.below hb)
  have hC21 := Lib.hid (hC20.out.below hb)
  have hD21 := Lib.hid (hD20.out.below hb)
  have hU21 := Lib.hid (hU20.out.below hb)
  have hG21 := Lib.hid hIG
  clear hb k0 k1 hJ20 hA20 hB20 hC20 hD20 hU20 hown hIG HRi
  have k0 := hJ21.out.c0
  have k1 := hJ21.out.c1
  go_wp2_with fail
  refine (HSi.out w21 ID (by have := hil.out; omega) pB pG cB cG hB21.out hG21.out).mono ?_
  rintro e w22 ⟨rfl, hb⟩
  have hJ22 := Lib.hid (hJ21.out.below hb)
  have hA22 := Lib.hid (hA21.out.below hb)
  have hB22 := Lib.hid (hB21.out.below hb)
  have hC22 := Lib.hid (hC21.out.below hb)
  have hD22 := Lib.hid (hD21.out.below hb)
  have hU22 := Lib.hid (hU21.out.below hb)
  have hG22 := Lib.hid (hG21.out.below hb)
  clear hb k0 k1 hJ21 hA21 hB21 hC21 hD21 hU21 hG21
  have k0 := hJ22.out.c0
  have k1 := hJ22.out.c1
  go_wp2_with fail
  refine (HRr.out _ hJ22.out).mono ?_
  rintro e w23 ⟨hv, rfl, hown, hb⟩
  obtain ⟨pH, cH, rfl, hIH, _⟩ := ints_of_own hown
  have hJ23 := Lib.hid (hJ22.out.below hb)
  have hA23 := Lib.hid (hA22.out.below hb)
  have hB23 := Lib.hid (hB22.out.below hb)
  have hC23 := Lib.hid (hC22.out.below hb)
  have hD23 := Lib.hid (hD22.out.below hb)
  have hU23 := Lib.hid (hU22.out.below hb)
  have hG23 := Lib.hid (hG22.out.below hb)
  have hH23 := Lib.hid hIH
  clear hb k0 k1 hJ22 hA22 hB22 hC22 hD22 hU22 hG22 hown hIH HRr
  have k0 := hJ23.out.c0
  have k1 := hJ23.out.c1
  go_wp2_with fail
  refine (HSi.out w23 RE (by have := hrl.out; omega) pC pH cC cH hC23.out hH23.out).mono ?_
  rintro e w24 ⟨rfl, hb⟩
  have hJ24 := Lib.hid (hJ23.out.below hb)
  have hA24 := Lib.hid (hA23.out.below hb)
  have hB24 := Lib.hid (hB23.out.below hb)
  have hC24 := Lib.hid (hC23.out.below hb)
  have hD24 := Lib.hid (hD23.out.below hb)
  have hU24 := Lib.hid (hU23.out.below hb)
  have hG24 := Lib.hid (hG23.out.below hb)
  have hH24 := Lib.hid (hH23.out.below hb)
  clear hb k0 k1 hJ23 hA23 hB23 hC23 hD23 hU23 hG23 hH23
  have hB := hJ24.out.b
  clear hJ24 hA24 hB24 hC24 hD24 hU24 hG24 hH24
  go_wp2
  go_ret
  exact ⟨rfl, hB⟩
end Go.Proofs.Ytkcchangkhklcaa

/- The law ChainMatters. -/
namespace Go.Proofs.Ytkcchangkhklcaa
open Go.RowKit

/-- the law -/
theorem chainMatters_true (w : World) (n : Int) (a : Option Addr) (m cap : Nat) (_ : I64 n) (_ : a = none → cap = 0) (_ : m ≤ maxLen) (L : List Ch.Lk) (hm : L.length = m) (hL : LksAt w a L) (_ : ∀ i, i < m → I64l (L.getD i Ch.noLk)) (q : Int) (_ : I64 q) :
    Calls Try.prog 6 #[sysV n a m cap, .int .i64 q] w (LawPost w) := by
  obtain ⟨K, hK⟩ := Ch.ea_ex n L
  have hA := hK K (Nat.le_refl _)
  cases h : (decide (m ≤ 45) && decide (n ≤ 14))
  · exact matters_other n a m cap q (Lib.hid h) w
  · by_cases hc : (Ch.check n L).1 = 0
    · cases hk : Ch.cons n.toNat L [] K
      · cases hq : Ch.isIx q m
        · exact matters_no0 n a m cap q L (Lib.hid hm) (Lib.hid h) K hA hc hk hq w (Lib.hid hL)
        · exact matters_no1 n a m cap q L (Lib.hid hm) (Lib.hid h) K hA hc hk hq w (Lib.hid hL)
      · have ho : Ch.opn n L [] K = 0 := by rw [Ch.opn_nil hc, if_pos hk]
        cases hq : Ch.isIx q m
        · exact matters_yes0 n a m cap q L (Lib.hid hm) (Lib.hid h) K hA hc ho hq w (Lib.hid hL)
        · simp [Ch.isIx] at hq
          by_cases hf : Ch.tb n L K (L.getD q.toNat Ch.noLk).t.toNat (L.getD q.toNat Ch.noLk).f.toNat = 1152921504606846976
          · exact matters_yes1 n a m cap q L (Lib.hid hm) (Lib.hid h) K hA hc ho q.toNat (by omega) (by omega) hf w (Lib.hid hL)
          · exact matters_yes2 n a m cap q L (Lib.hid hm) (Lib.hid h) K hA hc ho q.toNat (by omega) (by omega) hf w (Lib.hid hL)
    · exact matters_err n a m cap q L (Lib.hid hm) (Lib.hid h) K hA hc w (Lib.hid hL)
end Go.Proofs.Ytkcchangkhklcaa
