/- The law ChainOrNot, walked. -/
import Derived.Test.YtpddjofmiakpbaaZYb
import Derived.Test.YtpddjofmiakpbaaZYa
import Derived.Test.YtpddjofmiakpbaaZCs
import Derived.Test.YtpddjofmiakpbaaZ06
import Derived.Test.YtpddjofmiakpbaaZRh
import Derived.Test.YtpddjofmiakpbaaZUf
set_option linter.unusedSimpArgs false
set_option linter.unusedVariables false
namespace Go.Proofs.Ytpddjofmiakpbaa
open Go.RowKit

theorem ints_of_row {W : World} {sb n : Nat} {f : Nat → Value} {l : List Int} (h : W.rowIs sb 3 n f) (hf : ∀ i, i < n → f i = .int .i64 (l.getD i 0)) (hl : l.length = n) : IntsAt W (some ⟨sb, 0, none⟩) l := by
  intro k hk
  have e : (⟨sb, 0, none⟩ : Addr).add k = ⟨sb, k, none⟩ := by unfold Addr.add; split <;> simp_all
  refine ⟨_, rfl, ?_⟩
  rw [e, h.cell (i := k) (by omega), hf k (by omega)]
set_option maxRecDepth 100000 in
set_option maxHeartbeats 8000000 in
theorem ornot_bad (n : Int) (a b d : Option Addr) (m cap p q c1 c2 : Nat) (L : List Ch.Lk) (xs ls : List Int) (hm : Hid (L.length = m)) (hp : Hid (xs.length = p)) (hq : Hid (ls.length = q)) (hp9 : p ≤ 70) (hq9 : q ≤ 80) (hsm : Hid ((decide (m ≤ 310) && decide (n ≤ 70)) = true)) (k : Nat) (hE : Ch.EN n L k) (ec : Int) (hck : (Ch.check n L).1 = ec) (hec : ec ≠ 0) (w : World) (hL : Hid (LksAt w a L)) (hx : Hid (IntsAt w b xs)) (hy : Hid (IntsAt w d ls)) :
    Calls Try.prog 6 #[sysV n a m cap, .slice b p c1, .slice d q c2] w (LawPost w) := by
  have HSm := Lib.hid fun (W : World) => small_any n a m cap true hsm W
  have HSa := Lib.hid fun (W : World) => sanity_any W
  have HCo := Lib.hid fun (W : World) (h : LJ w n a b d m cap L xs ls W) => consistentS_any n a cap L k hE.en W h.l
  rw [show Ch.consE n L k = (false, ec) by unfold Ch.consE; rw [if_pos (by rw [hck]; exact hec), hck], hm.out] at HCo
  unfold sysV at *
  have hn1 : ¬ (70 : Int) < (p : Int) := by omega
  have hn2 : ¬ (80 : Int) < (q : Int) := by omega
  have hz : (ec != 0) = true := by rw [bne_iff_ne]; exact hec
  clear hck hE
  go_enter Try.func6, Try.ntmps6
  go_wp2_with fail
  refine (HSm.out _).mono ?_
  rintro e w1 ⟨rfl, hb⟩
  have hB1 := bstep1 (Below.refl _ _) hb
  have hJ := Lib.hid (LJ.mk (w := w) (n := n) (a := a) (m := m) (cap := cap) (W := w1) (kept1 (by simp [go_sem]) hb) (kept1 (by simp [go_sem]) hb) (hL.out.below hB1) (hx.out.below hB1) (hy.out.below hB1) hB1)
  clear hb hB1 HSm hsm hL hx hy
  have k0 := hJ.out.c0
  have k1 := hJ.out.c1
  go_wp2_with fail
  refine (HCo.out _ hJ.out).mono ?_
  rintro e w2 ⟨rfl, hb⟩
  have hJ2 := Lib.hid (hJ.out.below hb)
  clear hb hJ k0 k1
  go_wp2_with fail
  refine (HSa.out _).mono ?_
  rintro e w3 ⟨rfl, hb⟩
  have hB := hJ2.out.b.trans (hb.mono hJ2.out.b.size)
  clear hb hJ2
  go_wp2
  go_ret
  exact ⟨rfl, hB⟩
set_option maxRecDepth 100000 in
set_option maxHeartbeats 8000000 in
theorem ornot_yes (n : Int) (a b d : Option Addr) (m cap p q c1 c2 : Nat) (L : List Ch.Lk) (xs ls : List Int) (hm : Hid (L.length = m)) (hp : Hid (xs.length = p)) (hq : Hid (ls.length = q)) (hp9 : p ≤ 70) (hq9 : q ≤ 80) (hsm : Hid ((decide (m ≤ 310) && decide (n ≤ 70)) = true)) (k : Nat) (hE : Ch.EN n L k) (hck : (Ch.check n L).1 = 0) (hco : Ch.cons n.toNat L [] k = true) (fb : Bool) (fe : Int) (hfi : Ch.fits n L xs = (fb, fe)) (w : World) (hL : Hid (LksAt w a L)) (hx : Hid (IntsAt w b xs)) (hy : Hid (IntsAt w d ls)) :
    Calls Try.prog 6 #[sysV n a m cap, .slice b p c1, .slice d q c2] w (LawPost w) := by
  have HSm := Lib.hid fun (W : World) => small_any n a m cap true hsm W
  have HSa := Lib.hid fun (W : World) => sanity_any W
  have HCo := Lib.hid fun (W : World) (h : LJ w n a b d m cap L xs ls W) => consistentS_any n a cap L k hE.en W h.l
  have HFi := Lib.hid fun (W : World) (h : LJ w n a b d m cap L xs ls W) => fits_any n a cap L b c1 xs W h.l h.x
  have HCc := Lib.hid fun (W : World) (h : LJ w n a b d m cap L xs ls W) => checkClash_any n a cap L d c2 ls W h.l h.y
  obtain ⟨Y, hY, hYf, _⟩ := Ch.sharp_reach hE (Ch.bound_self hE hck hco)
  obtain ⟨_, hYl, _⟩ := Ch.fits_sol hYf
  have hYn : Y.length = n.toNat := by omega
  have HCl := Lib.hid fun (W : World) (h : LJ w n a b d m cap L xs ls W) => clashE_any n a cap L k hE.en [] 5 (by unfold Ch.clashE; rw [if_neg (by omega), if_pos hco]) W h.l
  have HRe := Lib.hid fun (W : World) (h : LJ w n a b d m cap L xs ls W) => reach_any n a cap L 0 0 k hE.en hE.cons W h.l
  have HFy := Lib.hid fun (W : World) (h : LJ w n a b d m cap L xs ls W) (x : Option Addr) (hx : IntsAt W x Y) => fits_any n a cap L x n.toNat Y W h.l hx
  have hkc : Ch.checkClash n L ls ≠ 0 := fun h => by
    have := Ch.ornot_clash hE h
    rw [hco] at this
    cases this
  obtain ⟨kc, hkk⟩ : ∃ kc, Ch.checkClash n L ls = kc := ⟨_, rfl⟩
  rw [hkk] at hkc
  rw [hkk, hm.out, hq.out] at HCc
  rw [hY] at HRe
  rw [hYf, hYn] at HFy
  rw [hfi, hm.out, hp.out] at HFi
  rw [show Ch.consE n L k = (true, 0) by unfold Ch.consE; rw [if_neg (by omega), hco], hm.out] at HCo
  rw [hm.out] at HCl HRe HFy
  have hk9 : (kc == 0) = false := by rw [beq_eq_false_iff_ne]; exact hkc
  obtain ⟨n1, n2, _⟩ := Ch.check_ok hck
  obtain ⟨N, rfl⟩ : ∃ N : Nat, n = (N : Int) := ⟨n.toNat, by omega⟩
  rw [Int.toNat_natCast] at *
  unfold sysV at *
  have hn1 : ¬ (70 : Int) < (p : Int) := by omega
  have hn2 : ¬ (80 : Int) < (q : Int) := by omega
  clear hck hE hfi hkk hY hYf hco
  go_enter Try.func6, Try.ntmps6
  go_wp2_with fail
  refine (HSm.out _).mono ?_
  rintro e w1 ⟨rfl, hb⟩
  have hB1 := bstep1 (Below.refl _ _) hb
  have hJ := Lib.hid (LJ.mk (w := w) (n := (N : Int)) (a := a) (m := m) (cap := cap) (W := w1) (kept1 (by simp [go_sem]) hb) (kept1 (by simp [go_sem]) hb) (hL.out.below hB1) (hx.out.below hB1) (hy.out.below hB1) hB1)
  clear hb hB1 HSm hsm hL hx hy
  have k0 := hJ.out.c0
  have k1 := hJ.out.c1
  go_wp2_with fail
  refine (HCo.out _ hJ.out).mono ?_
  rintro e w2 ⟨rfl, hb⟩
  have hJ2 := Lib.hid (hJ.out.below hb)
  clear hb hJ k0 k1 HCo
  have k0 := hJ2.out.c0
  have k1 := hJ2.out.c1
  go_wp2_with fail
  refine (HCl.out _ hJ2.out).mono ?_
  rintro e w3 ⟨v, rfl, _, hb⟩
  have hJ3 := Lib.hid (hJ2.out.below hb)
  clear hb hJ2 k0 k1 HCl
  have k0 := hJ3.out.c0
  have k1 := hJ3.out.c1
  go_wp2_with fail
  refine (HRe.out _ hJ3.out).mono ?_
  rintro e w4 ⟨hb, h⟩
  obtain ⟨_, sb, f, _, rfl, hr, hf⟩ := h.resolve_left (fun h => h.1 rfl)
  have hYi := Lib.hid (ints_of_row hr hf hYn)
  have hJ4 := Lib.hid (hJ3.out.below hb)
  clear hb hJ3 k0 k1 HRe hr hf h
  have k0 := hJ4.out.c0
  have k1 := hJ4.out.c1
  go_wp2_with fail
  refine (HFi.out _ hJ4.out).mono ?_
  rintro e w5 ⟨rfl, hb⟩
  have hJ5 := Lib.hid (hJ4.out.below hb)
  have hYj := Lib.hid (hYi.out.below hb)
  clear hb hJ4 k0 k1 HFi hYi
  by_cases hfe : fe = 0
  · subst hfe
    cases fb
    · have k0 := hJ5.out.c0
      have k1 := hJ5.out.c1
      go_wp2_with fail
      refine (HCc.out _ hJ5.out).mono ?_
      rintro e w6 ⟨rfl, hb⟩
      have hJ6 := Lib.hid (hJ5.out.below hb)
      have hYk := Lib.hid (hYj.out.below hb)
      clear hb hJ5 k0 k1 HCc hYj
      have k0 := hJ6.out.c0
      have k1 := hJ6.out.c1
      go_wp2_with fail
      refine (HFy.out _ hJ6.out _ hYk.out).mono ?_
      rintro e w7 ⟨rfl, hb⟩
      have hJ7 := Lib.hid (hJ6.out.below hb)
      clear hb hJ6 k0 k1 HFy hYk
      go_wp2_with fail
      refine (HSa.out _).mono ?_
      rintro e w8 ⟨rfl, hb⟩
      have hB := hJ7.out.b.trans (hb.mono hJ7.out.b.size)
      clear hb hJ7
      go_wp2
      go_ret
      exact ⟨rfl, hB⟩
    · have k0 := hJ5.out.c0
      have k1 := hJ5.out.c1
      go_wp2_with fail
      refine (HCc.out _ hJ5.out).mono ?_
      rintro e w6 ⟨rfl, hb⟩
      have hJ6 := Lib.hid (hJ5.out.below hb)
      have hYk := Lib.hid (hYj.out.below hb)
      clear hb hJ5 k0 k1 HCc hYj
      have k0 := hJ6.out.c0
      have k1 := hJ6.out.c1
      go_wp2_with fail
      refine (HFy.out _ hJ6.out _ hYk.out).mono ?_
      rintro e w7 ⟨rfl, hb⟩
      have hJ7 := Lib.hid (hJ6.out.below hb)
      clear hb hJ6 k0 k1 HFy hYk
      go_wp2_with fail
      refine (HSa.out _).mono ?_
      rintro e w8 ⟨rfl, hb⟩
      have hB := hJ7.out.b.trans (hb.mono hJ7.out.b.size)
      clear hb hJ7
      go_wp2
      go_ret
      exact ⟨rfl, hB⟩
  · have hfz : (fe == 0) = false := by rw [beq_eq_false_iff_ne]; exact hfe
    have k0 := hJ5.out.c0
    have k1 := hJ5.out.c1
    go_wp2_with fail
    refine (HCc.out _ hJ5.out).mono ?_
    rintro e w6 ⟨rfl, hb⟩
    have hJ6 := Lib.hid (hJ5.out.below hb)
    have hYk := Lib.hid (hYj.out.below hb)
    clear hb hJ5 k0 k1 HCc hYj
    have k0 := hJ6.out.c0
    have k1 := hJ6.out.c1
    go_wp2_with fail
    refine (HFy.out _ hJ6.out _ hYk.out).mono ?_
    rintro e w7 ⟨rfl, hb⟩
    have hJ7 := Lib.hid (hJ6.out.below hb)
    clear hb hJ6 k0 k1 HFy hYk
    go_wp2_with fail
    refine (HSa.out _).mono ?_
    rintro e w8 ⟨rfl, hb⟩
    have hB := hJ7.out.b.trans (hb.mono hJ7.out.b.size)
    clear hb hJ7
    go_wp2
    go_ret
    exact ⟨rfl, hB⟩
set_option maxRecDepth 100000 in
set_option maxHeartbeats 8000000 in
theorem ornot_no (n : Int) (a b d : Option Addr) (m cap p q c1 c2 : Nat) (L : List Ch.Lk) (xs ls : List Int) (hm : Hid (L.length = m)) (hp : Hid (xs.length = p)) (hq : Hid (ls.length = q)) (hp9 : p ≤ 70) (hq9 : q ≤ 80) (hsm : Hid ((decide (m ≤ 310) && decide (n ≤ 70)) = true)) (k : Nat) (hE : Ch.EN n L k) (hck : (Ch.check n L).1 = 0) (hco : Ch.cons n.toNat L [] k = false) (fb : Bool) (fe : Int) (hfi : Ch.fits n L xs = (fb, fe)) (w : World) (hL : Hid (LksAt w a L)) (hx : Hid (IntsAt w b xs)) (hy : Hid (IntsAt w d ls)) :
    Calls Try.prog 6 #[sysV n a m cap, .slice b p c1, .slice d q c2] w (LawPost w) := by
  have HSm := Lib.hid fun (W : World) => small_any n a m cap true hsm W
  have HSa := Lib.hid fun (W : World) => sanity_any W
  have HCo := Lib.hid fun (W : World) (h : LJ w n a b d m cap L xs ls W) => consistentS_any n a cap L k hE.en W h.l
  have HFi := Lib.hid fun (W : World) (h : LJ w n a b d m cap L xs ls W) => fits_any n a cap L b c1 xs W h.l h.x
  have HCc := Lib.hid fun (W : World) (h : LJ w n a b d m cap L xs ls W) => checkClash_any n a cap L d c2 ls W h.l h.y
  obtain ⟨c, hc1, hc2, hc3, hc4, hc5⟩ := Ch.ornot_no hE hck hco
  obtain ⟨n1, n2, _⟩ := Ch.check_ok hck
  have hop := Ch.open_clash hck hco (u := 0) (v := 0) ⟨by omega, by omega⟩ ⟨by omega, by omega⟩
  have hrc : Ch.reach n L k 0 0 = ([], 9) := by unfold Ch.reach; rw [if_pos (by rw [hop]; decide), hop]
  have HCl := Lib.hid fun (W : World) (h : LJ w n a b d m cap L xs ls W) => clashE_any n a cap L k hE.en c 0 hc1 W h.l
  have HRe := Lib.hid fun (W : World) (h : LJ w n a b d m cap L xs ls W) => reach_any n a cap L 0 0 k hE.en hE.cons W h.l
  have HCy := Lib.hid fun (W : World) (h : LJ w n a b d m cap L xs ls W) (x : Option Addr) (cp : Nat) (hx : IntsAt W x (Ch.ints c)) => checkClash_any n a cap L x cp (Ch.ints c) W h.l hx
  have hlen := hc5 ls
  have hff : ¬ (fe = 0 ∧ fb = true) := fun h => by
    have := Ch.ornot_fits hE (x := xs) (by rw [hfi, h.1, h.2])
    rw [hco] at this
    cases this
  obtain ⟨kc, hkk⟩ : ∃ kc, Ch.checkClash n L ls = kc := ⟨_, rfl⟩
  rw [hkk, hq.out] at hlen
  rw [hkk, hm.out, hq.out] at HCc
  rw [hrc] at HRe
  rw [hc4, Ch.ints_len] at HCy
  rw [hfi, hm.out, hp.out] at HFi
  rw [show Ch.consE n L k = (false, 0) by unfold Ch.consE; rw [if_neg (by omega), hco], hm.out] at HCo
  rw [hm.out] at HCl HRe HCy
  obtain ⟨N, rfl⟩ : ∃ N : Nat, n = (N : Int) := ⟨n.toNat, by omega⟩
  rw [Int.toNat_natCast] at *
  unfold sysV at *
  obtain ⟨cl, hcl⟩ : ∃ cl, c.length = cl := ⟨_, rfl⟩
  rw [hcl] at hc2 hc3 hlen HCy
  have hg1 : ((cl : Int) == 0) = false := by rw [beq_eq_false_iff_ne]; omega
  have hg2 : ¬ (N : Int) < (cl : Int) := by omega
  have hn1 : ¬ (70 : Int) < (p : Int) := by omega
  have hn2 : ¬ (80 : Int) < (q : Int) := by omega
  clear hck hE hfi hkk hop hrc hc1 hc4 hc5 hco
  go_enter Try.func6, Try.ntmps6
  go_wp2_with fail
  refine (HSm.out _).mono ?_
  rintro e w1 ⟨rfl, hb⟩
  have hB1 := bstep1 (Below.refl _ _) hb
  have hJ := Lib.hid (LJ.mk (w := w) (n := (N : Int)) (a := a) (m := m) (cap := cap) (W := w1) (kept1 (by simp [go_sem]) hb) (kept1 (by simp [go_sem]) hb) (hL.out.below hB1) (hx.out.below hB1) (hy.out.below hB1) hB1)
  clear hb hB1 HSm hsm hL hx hy
  have k0 := hJ.out.c0
  have k1 := hJ.out.c1
  go_wp2_with fail
  refine (HCo.out _ hJ.out).mono ?_
  rintro e w2 ⟨rfl, hb⟩
  have hJ2 := Lib.hid (hJ.out.below hb)
  clear hb hJ k0 k1 HCo
  have k0 := hJ2.out.c0
  have k1 := hJ2.out.c1
  go_wp2_with fail
  refine (HCl.out _ hJ2.out).mono ?_
  rintro e w3 ⟨v, rfl, hown, hb⟩
  have hJ3 := Lib.hid (hJ2.out.below hb)
  obtain ⟨cp, cc, rfl, hci, _⟩ := ints_of_own hown
  replace hci := Lib.hid hci
  rw [hcl]
  clear hb hJ2 k0 k1 HCl hown
  have k0 := hJ3.out.c0
  have k1 := hJ3.out.c1
  go_wp2_with fail
  refine (HRe.out _ hJ3.out).mono ?_
  rintro e w4 ⟨hb, h⟩
  obtain ⟨_, rfl⟩ := h.resolve_right (fun h => by cases h.1)
  have hJ4 := Lib.hid (hJ3.out.below hb)
  have hci4 := Lib.hid (hci.out.below hb)
  clear hb hJ3 k0 k1 HRe h hci
  have k0 := hJ4.out.c0
  have k1 := hJ4.out.c1
  go_wp2_with fail
  refine (HFi.out _ hJ4.out).mono ?_
  rintro e w5 ⟨rfl, hb⟩
  have hJ5 := Lib.hid (hJ4.out.below hb)
  have hci5 := Lib.hid (hci4.out.below hb)
  clear hb hJ4 k0 k1 HFi hci4
  by_cases hfe : fe = 0
  · subst hfe
    obtain rfl : fb = false := by cases fb with
      | false => rfl
      | true => exact absurd ⟨rfl, rfl⟩ hff
    clear hff
    have k0 := hJ5.out.c0
    have k1 := hJ5.out.c1
    go_wp2_with fail
    refine (HCc.out _ hJ5.out).mono ?_
    rintro e w6 ⟨rfl, hb⟩
    have hJ6 := Lib.hid (hJ5.out.below hb)
    have hci6 := Lib.hid (hci5.out.below hb)
    clear hb hJ5 k0 k1 hci5
    by_cases hk : kc = 0
    · subst hk
      have hge := hlen rfl
      have hg3 : (cl : Int) ≤ (q : Int) := by omega
      clear hlen hge
      have k0 := hJ6.out.c0
      have k1 := hJ6.out.c1
      go_wp2_with fail
      refine (HCy.out _ hJ6.out _ _ hci6.out).mono ?_
      rintro e w7 ⟨rfl, hb⟩
      have hJ7 := Lib.hid (hJ6.out.below hb)
      clear hb hJ6 k0 k1 HCy hci6
      go_wp2_with fail
      refine (HSa.out _).mono ?_
      rintro e w8 ⟨rfl, hb⟩
      have hJ8 := Lib.hid (hJ7.out.below hb)
      clear hb hJ7
      have k0 := hJ8.out.c0
      have k1 := hJ8.out.c1
      go_wp2_with fail
      refine (HCc.out _ hJ8.out).mono ?_
      rintro e w9 ⟨rfl, hb⟩
      have hJ9 := Lib.hid (hJ8.out.below hb)
      clear hb hJ8 k0 k1 HCc
      have hB := hJ9.out.b
      clear hJ9
      go_wp2
      go_ret
      exact ⟨rfl, hB⟩
    · have hk9 : (kc == 0) = false := by rw [beq_eq_false_iff_ne]; exact hk
      have hk8 : (kc != 0) = true := by rw [bne_iff_ne]; exact hk
      clear hlen hk
      have k0 := hJ6.out.c0
      have k1 := hJ6.out.c1
      go_wp2_with fail
      refine (HCy.out _ hJ6.out _ _ hci6.out).mono ?_
      rintro e w7 ⟨rfl, hb⟩
      have hJ7 := Lib.hid (hJ6.out.below hb)
      clear hb hJ6 k0 k1 HCy hci6
      go_wp2_with fail
      refine (HSa.out _).mono ?_
      rintro e w8 ⟨rfl, hb⟩
      have hJ8 := Lib.hid (hJ7.out.below hb)
      clear hb hJ7
      have k0 := hJ8.out.c0
      have k1 := hJ8.out.c1
      go_wp2_with fail
      refine (HCc.out _ hJ8.out).mono ?_
      rintro e w9 ⟨rfl, hb⟩
      have hJ9 := Lib.hid (hJ8.out.below hb)
      clear hb hJ8 k0 k1 HCc
      have hB := hJ9.out.b
      clear hJ9
      go_wp2
      go_ret
      exact ⟨rfl, hB⟩
  · have hfz : (fe == 0) = false := by rw [beq_eq_false_iff_ne]; exact hfe
    clear hff hfe
    have k0 := hJ5.out.c0
    have k1 := hJ5.out.c1
    go_wp2_with fail
    refine (HCc.out _ hJ5.out).mono ?_
    rintro e w6 ⟨rfl, hb⟩
    have hJ6 := Lib.hid (hJ5.out.below hb)
    have hci6 := Lib.hid (hci5.out.below hb)
    clear hb hJ5 k0 k1 hci5
    by_cases hk : kc = 0
    · subst hk
      have hge := hlen rfl
      have hg3 : (cl : Int) ≤ (q : Int) := by omega
      clear hlen hge
      have k0 := hJ6.out.c0
      have k1 := hJ6.out.c1
      go_wp2_with fail
      refine (HCy.out _ hJ6.out _ _ hci6.out).mono ?_
      rintro e w7 ⟨rfl, hb⟩
      have hJ7 := Lib.hid (hJ6.out.below hb)
      clear hb hJ6 k0 k1 HCy hci6
      go_wp2_with fail
      refine (HSa.out _).mono ?_
      rintro e w8 ⟨rfl, hb⟩
      have hJ8 := Lib.hid (hJ7.out.below hb)
      clear hb hJ7
      have k0 := hJ8.out.c0
      have k1 := hJ8.out.c1
      go_wp2_with fail
      refine (HCc.out _ hJ8.out).mono ?_
      rintro e w9 ⟨rfl, hb⟩
      have hJ9 := Lib.hid (hJ8.out.below hb)
      clear hb hJ8 k0 k1 HCc
      have hB := hJ9.out.b
      clear hJ9
      go_wp2
      go_ret
      exact ⟨rfl, hB⟩
    · have hk9 : (kc == 0) = false := by rw [beq_eq_false_iff_ne]; exact hk
      have hk8 : (kc != 0) = true := by rw [bne_iff_ne]; exact hk
      clear hlen hk
      have k0 := hJ6.out.c0
      have k1 := hJ6.out.c1
      go_wp2_with fail
      refine (HCy.out _ hJ6.out _ _ hci6.out).mono ?_
      rintro e w7 ⟨rfl, hb⟩
      have hJ7 := Lib.hid (hJ6.out.below hb)
      clear hb hJ6 k0 k1 HCy hci6
      go_wp2_with fail
      refine (HSa.out _).mono ?_
      rintro e w8 ⟨rfl, hb⟩
      have hJ8 := Lib.hid (hJ7.out.below hb)
      clear hb hJ7
      have k0 := hJ8.out.c0
      have k1 := hJ8.out.c1
      go_wp2_with fail
      refine (HCc.out _ hJ8.out).mono ?_
      rintro e w9 ⟨rfl, hb⟩
      have hJ9 := Lib.hid (hJ8.out.below hb)
      clear hb hJ8 k0 k1 HCc
      have hB := hJ9.out.b
      clear hJ9
      go_wp2
      go_ret
      exact ⟨rfl, hB⟩
set_option maxRecDepth 100000 in
set_option maxHeartbeats 8000000 in
theorem ornot_other (n : Int) (a b d : Option Addr) (m cap p q c1 c2 : Nat) (h : ¬ ((decide (m ≤ 310) && decide (n ≤ 70)) = true ∧ p ≤ 70 ∧ q ≤ 80)) (w : World) :
    Calls Try.prog 6 #[sysV n a m cap, .slice b p c1, .slice d q c2] w (LawPost w) := by
  have HSa := Lib.hid fun (W : World) => sanity_any W
  obtain ⟨sm, hsm⟩ : ∃ sm, (decide (m ≤ 310) && decide (n ≤ 70)) = sm := ⟨_, rfl⟩
  have HSm := Lib.hid fun (W : World) => small_any n a m cap sm (Lib.hid hsm) W
  rw [hsm] at h
  replace h := Lib.hid h
  clear hsm
  unfold sysV at *
  cases sm
  · go_enter Try.func6, Try.ntmps6
    go_wp2_with fail
    refine (HSm.out _).mono ?_
    rintro e w1 ⟨rfl, hb⟩
    have hB1 := bstep1 (Below.refl _ _) hb
    clear hb HSm
    go_wp2_with fail
    refine (HSa.out _).mono ?_
    rintro e w4 ⟨rfl, hb⟩
    have hB := hB1.trans (hb.mono hB1.size)
    clear hb hB1
    go_wp2
    go_ret
    exact ⟨rfl, hB⟩
  · by_cases h1 : p ≤ 70
    · have hn1 : ¬ (70 : Int) < (p : Int) := by omega
      have hn2 : (80 : Int) < (q : Int) := by
        by_cases e : q ≤ 80
        · exact absurd ⟨rfl, h1, e⟩ h.out
        · omega
      go_enter Try.func6, Try.ntmps6
      go_wp2_with fail
      refine (HSm.out _).mono ?_
      rintro e w1 ⟨rfl, hb⟩
      have hB1 := bstep1 (Below.refl _ _) hb
      clear hb HSm
      go_wp2_with fail
      refine (HSa.out _).mono ?_
      rintro e w4 ⟨rfl, hb⟩
      have hB := hB1.trans (hb.mono hB1.size)
      clear hb hB1
      go_wp2
      go_ret
      exact ⟨rfl, hB⟩
    · have hn1 : (70 : Int) < (p : Int) := by omega
      go_enter Try.func6, Try.ntmps6
      go_wp2_with fail
      refine (HSm.out _).mono ?_
      rintro e w1 ⟨rfl, hb⟩
      have hB1 := bstep1 (Below.refl _ _) hb
      clear hb HSm
      go_wp2_with fail
      refine (HSa.out _).mono ?_
      rintro e w4 ⟨rfl, hb⟩
      have hB := hB1.trans (hb.mono hB1.size)
      clear hb hB1
      go_wp2
      go_ret
      exact ⟨rfl, hB⟩
/-- the law, whatever the lists -/
theorem chainOrNot_true (w : World) (n : Int) (a : Option Addr) (m cap : Nat) (_ : I64 n) (_ : a = none → cap = 0) (_ : m ≤ maxLen) (L : List Ch.Lk) (hm : L.length = m) (hL : LksAt w a L) (_ : ∀ i, i < m → I64l (L.getD i Ch.noLk))
    (b : Option Addr) (p c1 : Nat) (_ : b = none → c1 = 0) (_ : p ≤ maxLen) (xl : List Int) (hp : xl.length = p) (hx : IntsAt w b xl) (_ : ∀ i, i < p → I64 (xl.getD i 0)) (d : Option Addr) (q c2 : Nat) (_ : d = none → c2 = 0) (_ : q ≤ maxLen) (xs : List Int) (hq : xs.length = q) (hy : IntsAt w d xs) (_ : ∀ i, i < q → I64 (xs.getD i 0)) :
    Calls Try.prog 6 #[sysV n a m cap, .slice b p c1, .slice d q c2] w (LawPost w) := by
  by_cases h : (decide (m ≤ 310) && decide (n ≤ 70)) = true ∧ p ≤ 70 ∧ q ≤ 80
  · obtain ⟨h1, h2, h3⟩ := h
    obtain ⟨K, hK⟩ := Ch.en_ex n L
    have hE := hK K (Nat.le_refl _)
    by_cases hc : (Ch.check n L).1 = 0
    · obtain ⟨fb, fe, hfi⟩ : ∃ fb fe, Ch.fits n L xl = (fb, fe) := ⟨_, _, rfl⟩
      cases hco : Ch.cons n.toNat L [] K
      · exact ornot_no n a b d m cap p q c1 c2 L xl xs (Lib.hid hm) (Lib.hid hp) (Lib.hid hq) h2 h3 (Lib.hid h1) K hE hc hco fb fe hfi w (Lib.hid hL) (Lib.hid hx) (Lib.hid hy)
      · exact ornot_yes n a b d m cap p q c1 c2 L xl xs (Lib.hid hm) (Lib.hid hp) (Lib.hid hq) h2 h3 (Lib.hid h1) K hE hc hco fb fe hfi w (Lib.hid hL) (Lib.hid hx) (Lib.hid hy)
    · exact ornot_bad n a b d m cap p q c1 c2 L xl xs (Lib.hid hm) (Lib.hid hp) (Lib.hid hq) h2 h3 (Lib.hid h1) K hE _ rfl hc w (Lib.hid hL) (Lib.hid hx) (Lib.hid hy)
  · exact ornot_other n a b d m cap p q c1 c2 h w
end Go.Proofs.Ytpddjofmiakpbaa
