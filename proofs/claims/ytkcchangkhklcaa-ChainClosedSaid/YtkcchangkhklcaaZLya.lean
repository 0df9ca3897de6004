/- The law ChainClosed: walked where Greatest is there and Least is there. -/
import Derived.Test.YtkcchangkhklcaaZLyt
import Derived.BigQuiet
set_option linter.unusedSimpArgs false
set_option linter.unusedVariables false
namespace Go.Proofs.Ytkcchangkhklcaa
open Go.RowKit

set_option linter.unusedSimpArgs false in
set_option maxRecDepth 100000 in
set_option maxHeartbeats 16000000 in
theorem closed_a (n : Int) (a b : Option Addr) (m cap p c1 : Nat) (u v z : Int) (L : List Ch.Lk) (xs : List Int) (hm : Hid (L.length = m)) (hp : Hid (xs.length = p)) (hp9 : p ≤ 70) (hsm : Hid ((decide (m ≤ 310) && decide (n ≤ 70)) = true)) (k : Nat) (hT : Ch.ET n L k) (ho : Ch.opn n L [] k = 0) (hg : (Ch.greatW n L k).2 = 0) (hh : (Ch.leastW n L k).2 = 0) (w : World) (hL : Hid (LksAt w a L)) (hx : Hid (IntsAt w b xs)) :
    Calls Try.prog 7 #[sysV n a m cap, .int .i64 u, .int .i64 v, .int .i64 z, .slice b p c1] w (LawPost w) := by
  have HSm := Lib.hid fun (W : World) => small_any n a m cap true hsm W
  have HSa := Lib.hid fun (W : World) => sanity_any W
  have hck := (Ch.opn_ok ho).1
  obtain ⟨n1, n2, _⟩ := Ch.check_ok hck
  obtain ⟨_, _, hTB⟩ := Ch.tb_of hT.en ho
  have hge := hT.greatE ho
  have hfit := fun i (hi : i < n.toNat) (hx : Ch.fits n L xs = (true, 0)) => Ch.closed_fit hT ho hx hi
  have hfl := fun (hx : Ch.fits n L xs = (true, 0)) => (Ch.fits_sol hx).2
  have hloA := fun i => Ch.least_at (n := n) (L := L) (k := k) (i := i)
  have hupA := fun i (hi : i < n.toNat) => hT.great_at ho hi
  have HTi := Lib.hid fun (W : World) (h : LJ w n a b b m cap L xs xs W) => tight_any n a cap L k hT.en.en W h.l
  have HSp := Lib.hid fun (W : World) (h : LJ w n a b b m cap L xs xs W) => spans_any n a cap L k hT.en.en hT.en2.en (fun _ => hge) W h.l
  have HGr := Lib.hid fun (W : World) (h : LJ w n a b b m cap L xs xs W) => greatestW_any n (by omega) a cap L k hT.en2.en (Ch.great_len hT.en2.en) W h.l
  have HLe := Lib.hid fun (W : World) (h : LJ w n a b b m cap L xs xs W) => leastW_any n (by omega) a cap L k hT.en.en (Ch.least_len hT.en.en) W h.l
  have HFi := Lib.hid fun (W : World) (h : LJ w n a b b m cap L xs xs W) => fits_any n a cap L b c1 xs W h.l h.x
  have HF0 := Lib.hid fun (W : World) (h : LJ w n a b b m cap L xs xs W) => fits_any n a cap L none 0 [] W h.l (fun k hk => absurd hk (by simp))
  have HNd := Lib.hid fun (W : World) (y : Int) (r : Bool) (hr : Ch.isIx y n = r) => nodeI_any n a m cap y r (Lib.hid hr) W
  have ed : tightB n L k = Ch.tb n L k := rfl
  rw [ho, ed] at HTi
  rw [ho] at HSp
  rw [hm.out] at HTi HSp HGr HLe HFi HF0
  rw [hp.out] at HFi
  obtain ⟨z1, z2, hzz⟩ : ∃ z1 z2, Ch.fits n L [] = (z1, z2) := ⟨_, _, rfl⟩
  rw [hzz] at HF0
  obtain ⟨fb, fe, hff⟩ : ∃ fb fe, Ch.fits n L xs = (fb, fe) := ⟨_, _, rfl⟩
  rw [hff] at HFi hfit hfl
  obtain ⟨lo, hlo⟩ : ∃ lo, Ch.least n L k = lo := ⟨_, rfl⟩
  obtain ⟨up, hup⟩ : ∃ up, Ch.greatest n L k = up := ⟨_, rfl⟩
  rw [hlo, hup] at HSp
  rw [hlo] at hloA
  rw [hup] at hupA
  obtain ⟨hg1, hg2⟩ := Ch.great_fits hT ho hg
  have hgl := Ch.great_len hT.en2.en hge
  rw [hg, hg1, hup] at HGr
  rw [hup] at hg2 hgl
  have HFu := Lib.hid fun (W : World) (h : LJ w n a b b m cap L xs xs W) (x : Option Addr) (hY : IntsAt W x up) => fits_any n a cap L x n.toNat up W h.l hY
  rw [hg2, hgl, hm.out] at HFu
  obtain ⟨hh1, hh2⟩ := Ch.least_fits hT ho hh
  have hhl := Ch.least_len hT.en.en ho
  rw [hh, hh1, hlo] at HLe
  rw [hlo] at hh2 hhl
  have HFd := Lib.hid fun (W : World) (h : LJ w n a b b m cap L xs xs W) (x : Option Addr) (hY : IntsAt W x lo) => fits_any n a cap L x n.toNat lo W h.l hY
  rw [hh2, hhl, hm.out] at HFd
  obtain ⟨D, hD⟩ : ∃ D, Ch.tb n L k = D := ⟨_, rfl⟩
  rw [hD] at HTi hTB
  have hloB : ∀ i, lo.getD i 0 = -(D i 0) := fun i => by rw [hloA i, hD]
  have hupB : ∀ i, i < n.toNat → up.getD i 0 = D 0 i := fun i hi => by rw [hupA i hi, hD]
  rw [hD] at hfit
  obtain ⟨N, rfl⟩ : ∃ N : Nat, n = (N : Int) := ⟨n.toNat, by omega⟩
  simp only [Int.toNat_natCast] at *
  replace hTB := Lib.hid hTB
  replace hfit := Lib.hid hfit
  replace hfl := Lib.hid hfl
  replace hloB := Lib.hid hloB
  replace hupB := Lib.hid hupB
  have hNN : ((N : Int) != (N : Int)) = false := by simp
  unfold sysV at *
  clear hck hge hloA hupA ed hzz hff hlo hup hD hT ho hg1 hg2 hh1 hh2
  replace hgl := Lib.hid hgl
  replace hhl := Lib.hid hhl
  have hn1 : ¬ (70 : Int) < (p : Int) := by omega
  go_enter Try.func7, Try.ntmps7
  go_wp2_with fail
  refine (HSm.out _).mono ?_
  rintro e w1 ⟨rfl, hb⟩
  have hB1 := bstep1 (Below.refl _ _) hb
  have hJ := Lib.hid (LJ.mk (w := w) (n := (N : Int)) (a := a) (m := m) (cap := cap) (W := w1) (kept1 (by simp [go_sem]) hb) (kept1 (by simp [go_sem]) hb) (hL.out.below hB1) (hx.out.below hB1) (hx.out.below hB1) hB1)
  clear hb hB1 HSm hsm hL hx
  have k0 := hJ.out.c0
  have k1 := hJ.out.c1
  go_wp2_with fail
  refine (HTi.out _ hJ.out).mono ?_
  rintro e w2 ⟨hb, h⟩
  obtain ⟨_, ob, S0, _, _, rfl, ho1, hr1⟩ := h.resolve_left (fun h => h.1 rfl)
  have hJ2 := Lib.hid (hJ.out.below hb)
  have hT2 := Lib.hid (TBL.mk (D := D) ho1 hr1)
  clear hb k0 k1 hJ HTi h ho1 hr1
  have k0 := hJ2.out.c0
  have k1 := hJ2.out.c1
  go_wp2_with fail
  refine (HSp.out _ hJ2.out).mono ?_
  rintro e w3 ⟨hb, h⟩
  obtain ⟨_, pb, _, rfl, hr1⟩ := h.resolve_left (fun h => h.1 rfl)
  have hJ3 := Lib.hid (hJ2.out.below hb)
  have hT3 := Lib.hid (hT2.out.below hb)
  have hP3 := Lib.hid hr1
  clear hb k0 k1 hJ2 hT2 HSp h hr1
  have k0 := hJ3.out.c0
  have k1 := hJ3.out.c1
  go_wp2_with fail
  refine (HGr.out _ hJ3.out).mono ?_
  rintro e w4 ⟨hb, h⟩
  obtain ⟨_, ub, f, _, rfl, hr1, hf1⟩ := h.resolve_left (fun h => h.1 rfl)
  have hJ4 := Lib.hid (hJ3.out.below hb)
  have hT4 := Lib.hid (hT3.out.below hb)
  have hP4 := Lib.hid (Below.row hb hP3.out)
  have hU4 : Hid (w4.rowIs ub 3 N (fun i => .int .i64 (up.getD i 0))) := Lib.hid (hr1.congr (fun i hi => hf1 i hi))
  clear hb k0 k1 hJ3 hT3 hP3 HGr h hr1 hf1
  have k0 := hJ4.out.c0
  have k1 := hJ4.out.c1
  go_wp2_with fail
  refine (HLe.out _ hJ4.out).mono ?_
  rintro e w5 ⟨hb, h⟩
  obtain ⟨_, db, f, _, rfl, hr1, hf1⟩ := h.resolve_left (fun h => h.1 rfl)
  have hJ5 := Lib.hid (hJ4.out.below hb)
  have hT5 := Lib.hid (hT4.out.below hb)
  have hP5 := Lib.hid (Below.row hb hP4.out)
  have hU5 := Lib.hid (Below.row hb hU4.out)
  have hD5 : Hid (w5.rowIs db 3 N (fun i => .int .i64 (lo.getD i 0))) := Lib.hid (hr1.congr (fun i hi => hf1 i hi))
  clear hb k0 k1 hJ4 hT4 hP4 hU4 HLe h hr1 hf1
  clear HNd
  have k0 := hJ5.out.c0
  have k1 := hJ5.out.c1
  go_upto_region 11 with fail
  refine tri_any _ _ _ _ _ _ _ _ _ _ _ _ _ _ _ _ _ _ _ _ _ _ _ _ _ _ _ _ _ _ _ _ _ _ _ _ _ _ _ _ _ _ _ _ _ _ _ _ _ _ _ _ _ _ _ _ _ _ _ _ _ _ _ _ _ _ _ _ _ _ _ _ _ _ _ _ _ _ _ _ _ _ _ _ _ _ _ _ _ _ _ N w.heap.size ob S0 m cap a u v z L D w5 hTB hT5 k0 k1 (fun _ _ _ _ h => h) ?_
  clear k0 k1 hTB
  intro w6 hb
  intros
  have hJ6 := Lib.hid (hJ5.out.below hb)
  have hT6 := Lib.hid (hT5.out.below hb)
  have hP6 := Lib.hid (Below.row hb hP5.out)
  have hU6 := Lib.hid (Below.row hb hU5.out)
  have hD6 := Lib.hid (Below.row hb hD5.out)
  clear hb hJ5 hT5 hP5 hU5 hD5
  have k0 := hJ6.out.c0
  have k1 := hJ6.out.c1
  go_wp2_with fail
  refine (HFu.out _ hJ6.out _ (ints_of_row hU6.out (fun i hi => rfl) hgl.out)).mono ?_
  rintro e w7 ⟨rfl, hb⟩
  have hJ7 := Lib.hid (hJ6.out.below hb)
  have hT7 := Lib.hid (hT6.out.below hb)
  have hP7 := Lib.hid (Below.row hb hP6.out)
  have hU7 := Lib.hid (Below.row hb hU6.out)
  have hD7 := Lib.hid (Below.row hb hD6.out)
  clear hb k0 k1 hJ6 hT6 hP6 hU6 hD6 HFu
  have k0 := hJ7.out.c0
  have k1 := hJ7.out.c1
  go_wp2_with fail
  refine (HFd.out _ hJ7.out _ (ints_of_row hD7.out (fun i hi => rfl) hhl.out)).mono ?_
  rintro e w8 ⟨rfl, hb⟩
  have hJ8 := Lib.hid (hJ7.out.below hb)
  have hT8 := Lib.hid (hT7.out.below hb)
  have hP8 := Lib.hid (Below.row hb hP7.out)
  have hU8 := Lib.hid (Below.row hb hU7.out)
  have hD8 := Lib.hid (Below.row hb hD7.out)
  clear hb k0 k1 hJ7 hT7 hP7 hU7 hD7 HFd
  have k0 := hJ8.out.c0
  have k1 := hJ8.out.c1
  go_wp2_with fail
  refine (HFi.out _ hJ8.out).mono ?_
  rintro e w9 ⟨rfl, hb⟩
  have hJ9 := Lib.hid (hJ8.out.below hb)
  have hT9 := Lib.hid (hT8.out.below hb)
  have hP9 := Lib.hid (Below.row hb hP8.out)
  have hU9 := Lib.hid (Below.row hb hU8.out)
  have hD9 := Lib.hid (Below.row hb hD8.out)
  clear hb k0 k1 hJ8 hT8 hP8 hU8 hD8 HFi HF0
  by_cases hfe : fe = 0
  · subst hfe
    cases fb
    · have k0 := hJ9.out.c0
      have k1 := hJ9.out.c1
      go_wp2_with fail
      refine (HSa.out _).mono ?_
      rintro e w99 ⟨rfl, hb⟩
      have hB := (hJ9.out.b).trans (hb.mono (hJ9.out.b).size)
      clear hb k0 k1 hJ9 hT9 hP9 hU9 hD9
      go_wp2
      go_ret
      exact ⟨rfl, hB⟩
    · obtain ⟨hxl, hxr, _⟩ := hfl.out rfl
      have hpN : p = N := by have := hp.out; omega
      have k0 := hJ9.out.c0
      have k1 := hJ9.out.c1
      go_wp2
      clear k0 k1
      go_loopw [25] (fun i wr => ∃ q : Nat, q ≤ N ∧ i = .int .i64 q ∧ Hid (Below w9.heap.size w9 wr)) (fun i _ => N - (RowKit.intOf i).toNat)
      case atStart => exact ⟨0, Nat.zero_le _, rfl, Lib.hid (Below.refl _ _)⟩
      case round =>
        obtain ⟨q, hq, rfl, hB⟩ := hrel
        have k0 := kept1 hJ9.out.c0 hB.out
        by_cases hlt : q < N
        · have hi7 : (q : Int) < (N : Int) := by omega
          have hi8 : (0 : Int) ≤ (q : Int) := by omega
          have hi9 : (q : Int) < (p : Int) := by omega
          obtain ⟨x, rfl, hcx⟩ := hJ9.out.x q (by have := hp.out; omega)
          have dx := kept1 hcx hB.out
          have d0 := (Below.row hB.out hP9.out).cell (i := q * 2) (by omega)
          have d1 := (Below.row hB.out hP9.out).cell (i := q * 2 + 1) (by omega)
          rw [sp_lo hlt] at d0
          rw [sp_hi hlt] at d1
          have du := (Below.row hB.out hU9.out).cell (i := q) hlt
          have dd := (Below.row hB.out hD9.out).cell (i := q) hlt
          have hf2 := hfit.out q hlt (by simp)
          rw [← hloB.out q, ← hupB.out q hlt] at hf2
          obtain ⟨xq, hxq⟩ : ∃ y, xs.getD q 0 = y := ⟨_, rfl⟩
          obtain ⟨lq, hlq⟩ : ∃ y, lo.getD q 0 = y := ⟨_, rfl⟩
          obtain ⟨uq, huq⟩ : ∃ y, up.getD q 0 = y := ⟨_, rfl⟩
          rw [hxq] at dx hf2
          rw [hlq] at d0 hf2 dd
          rw [huq] at d1 hf2 du
          have e1 : decide (xq < lq) = false := decide_eq_false (by omega)
          have e2 : decide (uq < xq) = false := decide_eq_false (by omega)
          have e3 : ¬ xq < lq := by omega
          have e4 : ¬ uq < xq := by omega
          have hBd := Lib.hid fun nq => hB.out.trans ((below_drewN (Below.refl wr.heap.size wr) nq).mono hB.out.size)
          clear hxq hlq huq hcx hB hf2
          go_upto_region 23 with fail
          go_quiet (fail)
          replace hBd := Lib.hid (hBd.out nq)
          clear d0 d1 dx k0 du dd
          go_wp2
          go_roundw
          case rel => exact ⟨q + 1, by omega, by go_num, hBd⟩
          case measure => show N - ((q : Int) + 1).toNat < N - (q : Int).toNat; omega
        · obtain rfl : q = N := by omega
          have hi7 : ¬ (q : Int) < (q : Int) := by omega
          have hBw := hJ9.out.b.trans (hB.out.mono hJ9.out.b.size)
          clear hB
          go_wp2_with fail
          refine (HSa.out _).mono ?_
          rintro e w99 ⟨rfl, hb⟩
          have hB := (hBw).trans (hb.mono (hBw).size)
          clear hb k0
          go_wp2
          go_ret
          exact ⟨rfl, hB⟩
  · have hz9 : (fe != 0) = true := by rw [bne_iff_ne]; exact hfe
    have k0 := hJ9.out.c0
    have k1 := hJ9.out.c1
    go_wp2_with fail
    refine (HSa.out _).mono ?_
    rintro e w99 ⟨rfl, hb⟩
    have hB := (hJ9.out.b).trans (hb.mono (hJ9.out.b).size)
    clear hb k0 k1 hJ9 hT9 hP9 hU9 hD9
    go_wp2
    go_ret
    exact ⟨rfl, hB⟩
end Go.Proofs.Ytkcchangkhklcaa
