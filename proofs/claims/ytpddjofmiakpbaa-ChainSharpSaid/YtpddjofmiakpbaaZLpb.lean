/- The law ChainSharp: the walk where Fits says no. -/
import Derived.Test.YtpddjofmiakpbaaZLo
import Derived.Test.YtpddjofmiakpbaaZ06
import Derived.Test.YtpddjofmiakpbaaZCc
import Derived.BigQuiet
set_option linter.unusedSimpArgs false
set_option linter.unusedVariables false
namespace Go.Proofs.Ytpddjofmiakpbaa
open Go.RowKit

set_option maxRecDepth 100000 in
set_option maxHeartbeats 8000000 in
theorem sharp_b (n : Int) (a b d : Option Addr) (m cap p q c1 c2 : Nat) (u v : Int) (L : List Ch.Lk) (xs ls : List Int) (hm : Hid (L.length = m)) (hp : Hid (xs.length = p)) (hq : Hid (ls.length = q)) (hp9 : p ≤ 70) (hq9 : q ≤ 80) (hsm : Hid ((decide (m ≤ 310) && decide (n ≤ 70)) = true)) (k : Nat) (hE : Ch.EN n L k) (hbe : (Ch.bound n L k u v).2 = 0) (fb : Bool) (fe : Int) (hfi : Ch.fits n L xs = (fb, fe)) (hfe : fe = 0) (hfb : fb = false) (w : World) (hL : Hid (LksAt w a L)) (hx : Hid (IntsAt w b xs)) (hy : Hid (IntsAt w d ls)) :
    Calls Try.prog 7 #[sysV n a m cap, .int .i64 u, .int .i64 v, .slice b p c1, .slice d q c2] w (LawPost w) := by
  have HSm := Lib.hid fun (W : World) => small_any n a m cap true hsm W
  have HSa := Lib.hid fun (W : World) => sanity_any W
  have HBo := Lib.hid fun (W : World) (h : LJ w n a b d m cap L xs ls W) => bound_any n a cap L u v k hE.en W h.l
  have HFi := Lib.hid fun (W : World) (h : LJ w n a b d m cap L xs ls W) => fits_any n a cap L b c1 xs W h.l h.x
  have HCc := Lib.hid fun (W : World) (h : LJ w n a b d m cap L xs ls W) => checkChain_any n a cap L u v d c2 ls W h.l h.y
  obtain ⟨cl, hc1, hc2, hc3, hc4⟩ := Ch.sharp_own hE hbe
  obtain ⟨Y, hY, hYf, hYd⟩ := Ch.sharp_reach hE hbe
  obtain ⟨hck, hu, hv, _, _⟩ := Ch.opn_at hE (Ch.bound_some hbe).1
  obtain ⟨n1, n2, _⟩ := Ch.check_ok hck
  obtain ⟨_, hYl, hYr, _⟩ := Ch.fits_sol hYf
  have hYn : Y.length = n.toNat := by omega
  have HCh := Lib.hid fun (W : World) (h : LJ w n a b d m cap L xs ls W) => chain_any n a cap L u v k hE.en cl 0 hc1 W h.l
  have HRe := Lib.hid fun (W : World) (h : LJ w n a b d m cap L xs ls W) => reach_any n a cap L u v k hE.en hE.cons W h.l
  have HFy := Lib.hid fun (W : World) (h : LJ w n a b d m cap L xs ls W) (x : Option Addr) (hx : IntsAt W x Y) => fits_any n a cap L x n.toNat Y W h.l hx
  have HCy := Lib.hid fun (W : World) (h : LJ w n a b d m cap L xs ls W) (x : Option Addr) (cp : Nat) (hx : IntsAt W x (Ch.ints cl)) => checkChain_any n a cap L u v x cp (Ch.ints cl) W h.l hx
  have hch := fun h => Ch.sharp_chain hE hbe (l := ls) h
  have hft := fun h => Ch.sharp_fits hE hbe (x := xs) h
  have hfr := fun h => (Ch.fits_sol (n := n) (L := L) (x := xs) h).2
  have hmin := hc4 ls
  obtain ⟨B, hB⟩ : ∃ B, (Ch.bound n L k u v).1 = B := ⟨_, rfl⟩
  have hbo : Ch.bound n L k u v = (B, 0) := by rw [← hB, ← hbe]
  obtain ⟨cs, ce, hcc⟩ : ∃ cs ce, Ch.checkChain n L u v ls = (cs, ce) := ⟨_, _, rfl⟩
  rw [hB] at hYd hc2 hch hft hmin
  rw [hcc] at hch hmin
  rw [hbo, hm.out] at HBo
  rw [hfi, hm.out, hp.out] at HFi
  rw [hcc, hm.out, hq.out] at HCc
  rw [hc2, hm.out, Ch.ints_len] at HCy
  rw [hY, hm.out] at HRe
  rw [hYf, hm.out, hYn] at HFy
  rw [hm.out] at HCh
  rw [hfi] at hft hfr
  rw [hq.out] at hmin
  obtain ⟨N, rfl⟩ : ∃ N : Nat, n = (N : Int) := ⟨n.toNat, by omega⟩
  obtain ⟨i, rfl⟩ : ∃ i : Nat, u = (i : Int) := ⟨u.toNat, by omega⟩
  obtain ⟨j, rfl⟩ : ∃ j : Nat, v = (j : Int) := ⟨v.toNat, by omega⟩
  simp only [Int.toNat_natCast] at *
  have hui : i < N := by omega
  have hvj : j < N := by omega
  have hui2 : (i : Int) < (N : Int) := by omega
  have hvj2 : (j : Int) < (N : Int) := by omega
  have yri := hYr i (by omega)
  have yrj := hYr j (by omega)
  obtain ⟨yi, hyi⟩ : ∃ y, Y.getD i 0 = y := ⟨_, rfl⟩
  obtain ⟨yj, hyj⟩ : ∃ y, Y.getD j 0 = y := ⟨_, rfl⟩
  rw [hyi, hyj] at hYd
  rw [hyi] at yri
  rw [hyj] at yrj
  obtain ⟨yr1, yr2⟩ := yri
  obtain ⟨yr3, yr4⟩ := yrj
  have hd0 : (yj - yi != B) = false := by rw [hYd]; simp
  have hd1 : (B != B) = false := by simp
  obtain ⟨ln, hln⟩ : ∃ ln, cl.length = ln := ⟨_, rfl⟩
  rw [hln] at hc3 HCy hmin
  have hd2 : ¬ (N : Int) ≤ (ln : Int) := by omega
  have hd3 : decide ((N : Int) ≤ (ln : Int)) = false := decide_eq_false hd2
  have hd4 : decide (N ≤ ln) = false := decide_eq_false (by omega)
  have hd5 : ¬ N ≤ ln := by omega
  replace hyi := Lib.hid hyi
  replace hyj := Lib.hid hyj
  replace hYn := Lib.hid hYn
  replace hmin := Lib.hid hmin
  replace hch := Lib.hid hch
  subst hfe hfb
  clear hft hfr
  unfold sysV at *
  have hn1 : ¬ (70 : Int) < (p : Int) := by omega
  have hn2 : ¬ (80 : Int) < (q : Int) := by omega
  clear hE hbo hfi hcc hbe hB hc1 hc2 hc3 hc4 hY hYf hYl hYr hYd hck hu hv
  go_enter Try.func7, Try.ntmps7
  go_wp2_with fail
  refine (HSm.out _).mono ?_
  rintro e w1 ⟨rfl, hb⟩
  have hB1 := bstep1 (Below.refl _ _) hb
  have hJ := Lib.hid (LJ.mk (w := w) (n := (N : Int)) (a := a) (m := m) (cap := cap) (W := w1) (kept1 (by simp [go_sem]) hb) (kept1 (by simp [go_sem]) hb) (hL.out.below hB1) (hx.out.below hB1) (hy.out.below hB1) hB1)
  clear hb hB1 HSm hsm hL hx hy
  have k0 := hJ.out.c0
  have k1 := hJ.out.c1
  go_wp2_with fail
  refine (HBo.out _ hJ.out).mono ?_
  rintro e w2 ⟨rfl, hb⟩
  have hJ2 := Lib.hid (hJ.out.below hb)
  clear hb hJ k0 k1 HBo
  have k0 := hJ2.out.c0
  have k1 := hJ2.out.c1
  go_wp2_with fail
  refine (HFi.out _ hJ2.out).mono ?_
  rintro e w3 ⟨rfl, hb⟩
  have hJ3 := Lib.hid (hJ2.out.below hb)
  clear hb hJ2 k0 k1 HFi
  have k0 := hJ3.out.c0
  have k1 := hJ3.out.c1
  go_wp2_with fail
  refine (HCc.out _ hJ3.out).mono ?_
  rintro e w4 ⟨rfl, hb⟩
  have hJ4 := Lib.hid (hJ3.out.below hb)
  clear hb hJ3 k0 k1 HCc
  by_cases h0 : ce = 0
  · subst h0
    have hge0 := hch.out rfl
    have hge1 : ¬ cs < B := Int.not_lt.2 hge0
    clear hch hge0
    have hJ5 := Lib.hid (hJ4.out.below (Below.refl _ _).drew)
    go_upto_region 10 with fail
    go_region
    generalize w4.drew = w5 at *
    clear hJ4
    have k0 := hJ5.out.c0
    have k1 := hJ5.out.c1
    go_wp2_with fail
    refine (HCh.out _ hJ5.out).mono ?_
    rintro e w6 ⟨cv, rfl, hown, hb⟩
    have hJ6 := Lib.hid (hJ5.out.below hb)
    obtain ⟨cp, cc, rfl, hci, _⟩ := ints_of_own hown
    replace hci := Lib.hid hci
    rw [hln]
    clear hb hJ5 k0 k1 HCh hown
    have k0 := hJ6.out.c0
    have k1 := hJ6.out.c1
    go_wp2_with fail
    refine (HCy.out _ hJ6.out _ _ hci.out).mono ?_
    rintro e w7 ⟨rfl, hb⟩
    have hJ7 := Lib.hid (hJ6.out.below hb)
    clear hb hJ6 k0 k1 HCy hci
    have k0 := hJ7.out.c0
    have k1 := hJ7.out.c1
    go_wp2_with fail
    refine (HRe.out _ hJ7.out).mono ?_
    rintro e w8 ⟨hb, h⟩
    obtain ⟨_, sb, f, _, rfl, hr, hf⟩ := h.resolve_left (fun h => h.1 rfl)
    have hJ8 := Lib.hid (hJ7.out.below hb)
    have hrr := Lib.hid hr
    have hff := Lib.hid hf
    clear hb hJ7 k0 k1 HRe hr hf h
    have k0 := hJ8.out.c0
    have k1 := hJ8.out.c1
    go_wp2_with fail
    refine (HFy.out _ hJ8.out _ (ints_of_row hrr.out hff.out hYn.out)).mono ?_
    rintro e w9 ⟨rfl, hb⟩
    have hJ9 := Lib.hid (hJ8.out.below hb)
    have hr9 := hrr.out.of_block (hb.block _ hrr.out.lt)
    have yc1 := hr9.cell (i := i) hui
    rw [hff.out i hui, hyi.out] at yc1
    have yc2 := hr9.cell (i := j) hvj
    rw [hff.out j hvj, hyj.out] at yc2
    clear hb hJ8 k0 k1 HFy hrr hr9 hff
    have k0 := hJ9.out.c0
    have k1 := hJ9.out.c1
    have hJa := Lib.hid fun nq => hJ9.out.below (below_drewN (Below.refl _ _) nq)
    go_upto_region 16 with fail
    go_quiet (fail)
    replace hJa := Lib.hid (hJa.out nq)
    clear yc1 yc2 k0 k1
    generalize w9.drewN nq = wa at *
    clear hJ9
    by_cases h9 : cs = B
    · subst h9
      have hge := hmin.out rfl
      have hge2 : (ln : Int) ≤ (q : Int) := by omega
      clear hmin hge
      go_wp2_with fail
      refine (HSa.out _).mono ?_
      rintro e w99 ⟨rfl, hb⟩
      have hB := hJa.out.b.trans (hb.mono hJa.out.b.size)
      clear hb hJa
      go_wp2
      go_ret
      exact ⟨rfl, hB⟩
    · have hne : (cs != B) = true := by rw [bne_iff_ne]; exact h9
      clear hmin h9
      go_wp2_with fail
      refine (HSa.out _).mono ?_
      rintro e w99 ⟨rfl, hb⟩
      have hB := hJa.out.b.trans (hb.mono hJa.out.b.size)
      clear hb hJa
      go_wp2
      go_ret
      exact ⟨rfl, hB⟩
  · have hz2 : (ce == 0) = false := by rw [beq_eq_false_iff_ne]; exact h0
    have hz3 : (ce != 0) = true := by rw [bne_iff_ne]; exact h0
    clear hch hmin h0
    have hJ5 := Lib.hid (hJ4.out.below (Below.refl _ _).drew)
    go_upto_region 10 with fail
    go_region
    generalize w4.drew = w5 at *
    clear hJ4
    have k0 := hJ5.out.c0
    have k1 := hJ5.out.c1
    go_wp2_with fail
    refine (HCh.out _ hJ5.out).mono ?_
    rintro e w6 ⟨cv, rfl, hown, hb⟩
    have hJ6 := Lib.hid (hJ5.out.below hb)
    obtain ⟨cp, cc, rfl, hci, _⟩ := ints_of_own hown
    replace hci := Lib.hid hci
    rw [hln]
    clear hb hJ5 k0 k1 HCh hown
    have k0 := hJ6.out.c0
    have k1 := hJ6.out.c1
    go_wp2_with fail
    refine (HCy.out _ hJ6.out _ _ hci.out).mono ?_
    rintro e w7 ⟨rfl, hb⟩
    have hJ7 := Lib.hid (hJ6.out.below hb)
    clear hb hJ6 k0 k1 HCy hci
    have k0 := hJ7.out.c0
    have k1 := hJ7.out.c1
    go_wp2_with fail
    refine (HRe.out _ hJ7.out).mono ?_
    rintro e w8 ⟨hb, h⟩
    obtain ⟨_, sb, f, _, rfl, hr, hf⟩ := h.resolve_left (fun h => h.1 rfl)
    have hJ8 := Lib.hid (hJ7.out.below hb)
    have hrr := Lib.hid hr
    have hff := Lib.hid hf
    clear hb hJ7 k0 k1 HRe hr hf h
    have k0 := hJ8.out.c0
    have k1 := hJ8.out.c1
    go_wp2_with fail
    refine (HFy.out _ hJ8.out _ (ints_of_row hrr.out hff.out hYn.out)).mono ?_
    rintro e w9 ⟨rfl, hb⟩
    have hJ9 := Lib.hid (hJ8.out.below hb)
    have hr9 := hrr.out.of_block (hb.block _ hrr.out.lt)
    have yc1 := hr9.cell (i := i) hui
    rw [hff.out i hui, hyi.out] at yc1
    have yc2 := hr9.cell (i := j) hvj
    rw [hff.out j hvj, hyj.out] at yc2
    clear hb hJ8 k0 k1 HFy hrr hr9 hff
    have k0 := hJ9.out.c0
    have k1 := hJ9.out.c1
    have hJa := Lib.hid fun nq => hJ9.out.below (below_drewN (Below.refl _ _) nq)
    go_upto_region 16 with fail
    go_quiet (fail)
    replace hJa := Lib.hid (hJa.out nq)
    clear yc1 yc2 k0 k1
    generalize w9.drewN nq = wa at *
    clear hJ9
    go_wp2_with fail
    refine (HSa.out _).mono ?_
    rintro e w99 ⟨rfl, hb⟩
    have hB := hJa.out.b.trans (hb.mono hJa.out.b.size)
    clear hb hJa
    go_wp2
    go_ret
    exact ⟨rfl, hB⟩
end Go.Proofs.Ytpddjofmiakpbaa
