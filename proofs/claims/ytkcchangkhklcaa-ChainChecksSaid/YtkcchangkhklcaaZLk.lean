/- The law ChainChecks, walked. -/
import Derived.Test.YtkcchangkhklcaaZQf
import Derived.Test.YtkcchangkhklcaaZRc
import Derived.Test.YtkcchangkhklcaaZCs
import Derived.Test.YtkcchangkhklcaaZ06
import Derived.Test.YtkcchangkhklcaaZYa
set_option linter.unusedSimpArgs false
set_option linter.unusedVariables false
namespace Go.Proofs.Ytkcchangkhklcaa
open Go.RowKit

theorem check_two {n : Int} {L : List Ch.Lk} (h : (Ch.check n L).1 = 0) : (Ch.check n L).2 = -1 := by
  unfold Ch.check at h ⊢
  split at h
  · cases h
  · split at h
    · cases h
    · split at h
      · cases h
      · rename_i h1 h2 _ _
        rw [if_neg h1, if_neg h2]
set_option linter.unusedSimpArgs false in
set_option maxRecDepth 100000 in
set_option maxHeartbeats 16000000 in
theorem checks_other (n : Int) (a : Option Addr) (m cap : Nat) (hsm : Hid ((decide (m ≤ 310) && decide (n ≤ 70)) = false)) (w : World) :
    Calls Try.prog 3 #[sysV n a m cap] w (LawPost w) := by
  have HSa := Lib.hid fun (W : World) => sanity_any W
  have HSm := Lib.hid fun (W : World) => small_any n a m cap false hsm W
  clear hsm
  unfold sysV at *
  go_enter Try.func3, Try.ntmps3
  go_wp2_with fail
  refine (HSm.out _).mono ?_
  rintro e w1 ⟨rfl, hb⟩
  have hB1 := bstep1 (Below.refl _ _) hb
  clear hb HSm
  go_wp2_with fail
  refine (HSa.out _).mono ?_
  rintro e w99 ⟨rfl, hb⟩
  have hB := (hB1).trans (hb.mono (hB1).size)
  clear hb
  go_wp2
  go_ret
  exact ⟨rfl, hB⟩
set_option linter.unusedSimpArgs false in
set_option maxRecDepth 100000 in
set_option maxHeartbeats 16000000 in
theorem checks_err (n : Int) (a : Option Addr) (m cap : Nat) (L : List Ch.Lk) (hm : Hid (L.length = m)) (hsm : Hid ((decide (m ≤ 310) && decide (n ≤ 70)) = true)) (k : Nat) (hE : Ch.EN n L k) (hc : ¬ (Ch.check n L).1 = 0) (w : World) (hL : Hid (LksAt w a L)) :
    Calls Try.prog 3 #[sysV n a m cap] w (LawPost w) := by
  have HSm := Lib.hid fun (W : World) => small_any n a m cap true hsm W
  have HSa := Lib.hid fun (W : World) => sanity_any W
  have HCk := Lib.hid fun (W : World) (h : SB w n a m cap L W) => check_any n a cap L W h.l
  have HRk := Lib.hid fun (W : World) (h : SB w n a m cap L W) => rcheck_any n a cap L W h.l
  have HCo := Lib.hid fun (W : World) (h : SB w n a m cap L W) => consistentS_any n a cap L k hE.en W h.l
  have hco : Ch.consE n L k = (false, (Ch.check n L).1) := by unfold Ch.consE; rw [if_pos hc]
  have hcl : Ch.clashE n L k = some ([], (Ch.check n L).1) := by unfold Ch.clashE; rw [if_pos hc]
  have HCl := Lib.hid fun (W : World) (h : SB w n a m cap L W) => clashE_any n a cap L k hE.en [] _ hcl W h.l
  rw [hco] at HCo
  rw [hm.out] at HCk HRk HCo HCl
  obtain ⟨ec, hec⟩ : ∃ ec, (Ch.check n L).1 = ec := ⟨_, rfl⟩
  obtain ⟨at1, hat⟩ : ∃ z, (Ch.check n L).2 = z := ⟨_, rfl⟩
  rw [hec] at HCk HRk HCo HCl hc
  rw [hat] at HCk HRk
  have g1 : (ec != 0) = true := by rw [bne_iff_ne]; exact hc
  have g2 : (ec != ec) = false := by simp
  have g3 : (at1 != at1) = false := by simp
  have g4 : (ec == ec) = true := by simp
  replace hc := Lib.hid hc
  unfold sysV at *
  clear hE hco hcl hec hat
  go_enter Try.func3, Try.ntmps3
  go_wp2_with fail
  refine (HSm.out _).mono ?_
  rintro e w1 ⟨rfl, hb⟩
  have hB1 := bstep1 (Below.refl _ _) hb
  have hJ1 := Lib.hid (SB.mk (w := w) (n := n) (a := a) (m := m) (cap := cap) (W := w1) (kept1 (by simp [go_sem]) hb) (kept1 (by simp [go_sem]) hb) (hL.out.below hB1) hB1)
  clear hb hB1 HSm hsm hL
  have k0 := hJ1.out.c0
  have k1 := hJ1.out.c1
  go_wp2_with fail
  refine (HCk.out _ hJ1.out).mono ?_
  rintro e w2 ⟨rfl, hb⟩
  have hJ2 := Lib.hid (hJ1.out.below hb)
  clear hb k0 k1 hJ1 HCk
  have k0 := hJ2.out.c0
  have k1 := hJ2.out.c1
  go_wp2_with fail
  refine (HRk.out _ hJ2.out).mono ?_
  rintro e w3 ⟨rfl, hb⟩
  have hJ3 := Lib.hid (hJ2.out.below hb)
  clear hb k0 k1 hJ2 HRk
  have k0 := hJ3.out.c0
  have k1 := hJ3.out.c1
  go_wp2_with fail
  refine (HCo.out _ hJ3.out).mono ?_
  rintro e w4 ⟨rfl, hb⟩
  have hJ4 := Lib.hid (hJ3.out.below hb)
  clear hb k0 k1 hJ3 HCo
  have k0 := hJ4.out.c0
  have k1 := hJ4.out.c1
  go_wp2_with fail
  refine (HCl.out _ hJ4.out).mono ?_
  rintro e w5 ⟨cv, rfl, hown, hb⟩
  obtain ⟨p5, c5, rfl, _⟩ := ints_of_own hown
  have hJ5 := Lib.hid (hJ4.out.below hb)
  clear hb k0 k1 hJ4 HCl hown
  go_wp2_with fail
  refine (HSa.out _).mono ?_
  rintro e w99 ⟨rfl, hb⟩
  have hB := (hJ5.out.b).trans (hb.mono (hJ5.out.b).size)
  clear hb hJ5
  go_wp2
  go_ret
  exact ⟨rfl, hB⟩
set_option linter.unusedSimpArgs false in
set_option maxRecDepth 100000 in
set_option maxHeartbeats 16000000 in
theorem checks_yes (n : Int) (a : Option Addr) (m cap : Nat) (L : List Ch.Lk) (hm : Hid (L.length = m)) (hsm : Hid ((decide (m ≤ 310) && decide (n ≤ 70)) = true)) (k : Nat) (hE : Ch.EN n L k) (hc : (Ch.check n L).1 = 0) (hk : Ch.cons n.toNat L [] k = true) (w : World) (hL : Hid (LksAt w a L)) :
    Calls Try.prog 3 #[sysV n a m cap] w (LawPost w) := by
  have HSm := Lib.hid fun (W : World) => small_any n a m cap true hsm W
  have HSa := Lib.hid fun (W : World) => sanity_any W
  have HCk := Lib.hid fun (W : World) (h : SB w n a m cap L W) => check_any n a cap L W h.l
  have HRk := Lib.hid fun (W : World) (h : SB w n a m cap L W) => rcheck_any n a cap L W h.l
  have HCo := Lib.hid fun (W : World) (h : SB w n a m cap L W) => consistentS_any n a cap L k hE.en W h.l
  obtain ⟨n1, n2, n3, hok⟩ := Ch.check_ok hc
  have hc2 : (Ch.check n L).2 = -1 := check_two hc
  have HRt := Lib.hid fun (W : World) (h : SB w n a m cap L W) => rtight_any n a m cap L hm hc W (Lib.hid h.l)
  have hyes := hE.cons hc hk
  have hco : Ch.consE n L k = (true, 0) := by unfold Ch.consE; rw [if_neg (fun h => h hc), hk]
  have hcl : Ch.clashE n L k = some ([], 5) := by unfold Ch.clashE; rw [if_neg (fun h => h hc), if_pos hk]
  have HCl := Lib.hid fun (W : World) (h : SB w n a m cap L W) => clashE_any n a cap L k hE.en [] _ hcl W h.l
  rw [hco] at HCo
  rw [hc, hc2] at HCk HRk
  rw [hm.out] at HCk HRk HCo HCl
  replace hyes := Lib.hid hyes
  unfold sysV at *
  clear hE hco hcl hc hc2 hok hk
  go_enter Try.func3, Try.ntmps3
  go_wp2_with fail
  refine (HSm.out _).mono ?_
  rintro e w1 ⟨rfl, hb⟩
  have hB1 := bstep1 (Below.refl _ _) hb
  have hJ1 := Lib.hid (SB.mk (w := w) (n := n) (a := a) (m := m) (cap := cap) (W := w1) (kept1 (by simp [go_sem]) hb) (kept1 (by simp [go_sem]) hb) (hL.out.below hB1) hB1)
  clear hb hB1 HSm hsm hL
  have k0 := hJ1.out.c0
  have k1 := hJ1.out.c1
  go_wp2_with fail
  refine (HCk.out _ hJ1.out).mono ?_
  rintro e w2 ⟨rfl, hb⟩
  have hJ2 := Lib.hid (hJ1.out.below hb)
  clear hb k0 k1 hJ1 HCk
  have k0 := hJ2.out.c0
  have k1 := hJ2.out.c1
  go_wp2_with fail
  refine (HRk.out _ hJ2.out).mono ?_
  rintro e w3 ⟨rfl, hb⟩
  have hJ3 := Lib.hid (hJ2.out.below hb)
  clear hb k0 k1 hJ2 HRk
  have k0 := hJ3.out.c0
  have k1 := hJ3.out.c1
  go_wp2_with fail
  refine (HCo.out _ hJ3.out).mono ?_
  rintro e w4 ⟨rfl, hb⟩
  have hJ4 := Lib.hid (hJ3.out.below hb)
  clear hb k0 k1 hJ3 HCo
  have k0 := hJ4.out.c0
  have k1 := hJ4.out.c1
  go_wp2_with fail
  refine (HCl.out _ hJ4.out).mono ?_
  rintro e w5 ⟨cv, rfl, hown, hb⟩
  obtain ⟨p5, c5, rfl, _⟩ := ints_of_own hown
  have hJ5 := Lib.hid (hJ4.out.below hb)
  clear hb k0 k1 hJ4 HCl hown
  have k0 := hJ5.out.c0
  have k1 := hJ5.out.c1
  go_wp2_with fail
  refine (HRt.out _ hJ5.out).mono ?_
  rintro e w6 ⟨hb, h⟩
  obtain ⟨_, ob, dc, R2, rfl, _⟩ := h.resolve_left (fun h => h.1 hyes.out)
  have hJ6 := Lib.hid (hJ5.out.below hb)
  clear hb k0 k1 hJ5 HRt h hyes
  go_wp2_with fail
  refine (HSa.out _).mono ?_
  rintro e w99 ⟨rfl, hb⟩
  have hB := (hJ6.out.b).trans (hb.mono (hJ6.out.b).size)
  clear hb hJ6
  go_wp2
  go_ret
  exact ⟨rfl, hB⟩
set_option linter.unusedSimpArgs false in
set_option maxRecDepth 100000 in
set_option maxHeartbeats 16000000 in
theorem checks_no (n : Int) (a : Option Addr) (m cap : Nat) (L : List Ch.Lk) (hm : Hid (L.length = m)) (hsm : Hid ((decide (m ≤ 310) && decide (n ≤ 70)) = true)) (k : Nat) (hE : Ch.EN n L k) (hc : (Ch.check n L).1 = 0) (hk : Ch.cons n.toNat L [] k = false) (w : World) (hL : Hid (LksAt w a L)) :
    Calls Try.prog 3 #[sysV n a m cap] w (LawPost w) := by
  have HSm := Lib.hid fun (W : World) => small_any n a m cap true hsm W
  have HSa := Lib.hid fun (W : World) => sanity_any W
  have HCk := Lib.hid fun (W : World) (h : SB w n a m cap L W) => check_any n a cap L W h.l
  have HRk := Lib.hid fun (W : World) (h : SB w n a m cap L W) => rcheck_any n a cap L W h.l
  have HCo := Lib.hid fun (W : World) (h : SB w n a m cap L W) => consistentS_any n a cap L k hE.en W h.l
  obtain ⟨n1, n2, n3, hok⟩ := Ch.check_ok hc
  have hc2 : (Ch.check n L).2 = -1 := check_two hc
  have HRt := Lib.hid fun (W : World) (h : SB w n a m cap L W) => rtight_any n a m cap L hm hc W (Lib.hid h.l)
  have hno : ¬ ∃ σ, Ch.Sol L [] σ := fun h => by
    have := (hE.sol hc).2 h
    rw [hk] at this; cases this
  obtain ⟨c, hc9, _, _, hcn, _⟩ := Ch.clash_ex (n := n.toNat) (by omega) (by rw [show ((n.toNat : Nat) : Int) = n by omega]; exact hok) hno
  have hco : Ch.consE n L k = (false, 0) := by unfold Ch.consE; rw [if_neg (fun h => h hc), hk]
  have hcl : Ch.clashE n L k = some (c, 0) := by unfold Ch.clashE; rw [if_neg (fun h => h hc), hk, hc9]; rfl
  have HCl := Lib.hid fun (W : World) (h : SB w n a m cap L W) => clashE_any n a cap L k hE.en c _ hcl W h.l
  have HRl := Lib.hid fun (W : World) (h : SB w n a m cap L W) => rclash_any n a m cap L hm hc hno c hc9 W (Lib.hid h.l)
  have HSi := Lib.hid fun (W : World) (x y : Option Addr) (c1 c2 : Nat) (hx : IntsAt W x (Ch.ints c)) (hy : IntsAt W y (Ch.ints c)) => sameInts_any x y c1 c2 (Ch.ints c) (Ch.ints c) (by rw [Ch.ints_len]; omega) W hx hy
  rw [decide_eq_true rfl, Ch.ints_len] at HSi
  obtain ⟨ln, hln⟩ : ∃ ln, c.length = ln := ⟨_, rfl⟩
  rw [hln] at HSi
  rw [hco] at HCo
  rw [hc, hc2] at HCk HRk
  rw [hm.out] at HCk HRk HCo HCl
  replace hno := Lib.hid hno
  replace hln := Lib.hid hln
  unfold sysV at *
  clear hE hco hcl hc hc2 hok hk hc9 hcn
  go_enter Try.func3, Try.ntmps3
  go_wp2_with fail
  refine (HSm.out _).mono ?_
  rintro e w1 ⟨rfl, hb⟩
  have hB1 := bstep1 (Below.refl _ _) hb
  have hJ1 := Lib.hid (SB.mk (w := w) (n := n) (a := a) (m := m) (cap := cap) (W := w1) (kept1 (by simp [go_sem]) hb) (kept1 (by simp [go_sem]) hb) (hL.out.below hB1) hB1)
  clear hb hB1 HSm hsm hL
  have k0 := hJ1.out.c0
  have k1 := hJ1.out.c1
  go_wp2_with fail
  refine (HCk.out _ hJ1.out).mono ?_
  rintro e w2 ⟨rfl, hb⟩
  have hJ2 := Lib.hid (hJ1.out.below hb)
  clear hb k0 k1 hJ1 HCk
  have k0 := hJ2.out.c0
  have k1 := hJ2.out.c1
  go_wp2_with fail
  refine (HRk.out _ hJ2.out).mono ?_
  rintro e w3 ⟨rfl, hb⟩
  have hJ3 := Lib.hid (hJ2.out.below hb)
  clear hb k0 k1 hJ2 HRk
  have k0 := hJ3.out.c0
  have k1 := hJ3.out.c1
  go_wp2_with fail
  refine (HCo.out _ hJ3.out).mono ?_
  rintro e w4 ⟨rfl, hb⟩
  have hJ4 := Lib.hid (hJ3.out.below hb)
  clear hb k0 k1 hJ3 HCo
  have k0 := hJ4.out.c0
  have k1 := hJ4.out.c1
  go_wp2_with fail
  refine (HCl.out _ hJ4.out).mono ?_
  rintro e w5 ⟨cv, rfl, hown, hb⟩
  obtain ⟨p5, c5, rfl, hIc, _⟩ := ints_of_own hown
  rw [hln.out]
  have hJ5 := Lib.hid (hJ4.out.below hb)
  have hC5 := Lib.hid hIc
  clear hb k0 k1 hJ4 HCl hown hIc
  have k0 := hJ5.out.c0
  have k1 := hJ5.out.c1
  go_wp2_with fail
  refine (HRt.out _ hJ5.out).mono ?_
  rintro e w6 ⟨hb, h⟩
  obtain ⟨_, rfl⟩ := h.resolve_right (fun h => hno.out h.1)
  have hJ6 := Lib.hid (hJ5.out.below hb)
  have hC6 := Lib.hid (hC5.out.below hb)
  clear hb k0 k1 hJ5 hC5 HRt h hno
  have k0 := hJ6.out.c0
  have k1 := hJ6.out.c1
  go_wp2_with fail
  refine (HSa.out _).mono ?_
  rintro e w7 ⟨rfl, hb⟩
  have hJ7 := Lib.hid (hJ6.out.below hb)
  have hC7 := Lib.hid (hC6.out.below hb)
  clear hb k0 k1 hJ6 hC6 HSa
  have k0 := hJ7.out.c0
  have k1 := hJ7.out.c1
  go_wp2_with fail
  refine (HRl.out _ hJ7.out).mono ?_
  rintro e w8 ⟨v8, rfl, hown, hb⟩
  obtain ⟨p8, c8, rfl, hI8, _⟩ := ints_of_own hown
  rw [hln.out]
  have hJ8 := Lib.hid (hJ7.out.below hb)
  have hC8 := Lib.hid (hC7.out.below hb)
  have hD8 := Lib.hid hI8
  clear hb k0 k1 hJ7 hC7 HRl hown hI8
  have k0 := hJ8.out.c0
  have k1 := hJ8.out.c1
  go_wp2_with fail
  refine (HSi.out _ p5 p8 c5 c8 hC8.out hD8.out).mono ?_
  rintro e w9 ⟨rfl, hb⟩
  have hJ9 := Lib.hid (hJ8.out.below hb)
  have hC9 := Lib.hid (hC8.out.below hb)
  have hD9 := Lib.hid (hD8.out.below hb)
  clear hb k0 k1 hJ8 hC8 hD8 HSi
  have hB := hJ9.out.b
  clear hJ9 hC9 hD9
  go_wp2
  go_ret
  exact ⟨rfl, hB⟩
/-- the law -/
theorem chainChecks_true (w : World) (n : Int) (a : Option Addr) (m cap : Nat) (_ : I64 n) (_ : a = none → cap = 0) (_ : m ≤ maxLen) (L : List Ch.Lk) (hm : L.length = m) (hL : LksAt w a L) (_ : ∀ i, i < m → I64l (L.getD i Ch.noLk)) :
    Calls Try.prog 3 #[sysV n a m cap] w (LawPost w) := by
  obtain ⟨K, hK⟩ := Ch.en_ex n L
  have hE := hK K (Nat.le_refl _)
  cases h : (decide (m ≤ 310) && decide (n ≤ 70))
  · exact checks_other n a m cap (Lib.hid h) w
  · by_cases hc : (Ch.check n L).1 = 0
    · cases hk : Ch.cons n.toNat L [] K
      · exact checks_no n a m cap L (Lib.hid hm) (Lib.hid h) K hE hc hk w (Lib.hid hL)
      · exact checks_yes n a m cap L (Lib.hid hm) (Lib.hid h) K hE hc hk w (Lib.hid hL)
    · exact checks_err n a m cap L (Lib.hid hm) (Lib.hid h) K hE hc w (Lib.hid hL)
end Go.Proofs.Ytkcchangkhklcaa
