/- Contracts of the specification: Check. -/
import Derived.Test.YtemacokojdeimaaGreatDoorZ07
set_option linter.unusedSimpArgs false
set_option linter.unusedVariables false
namespace Go.Proofs.YtemacokojdeimaaGreatDoor
open Go.RowKit

theorem okLk_false {n : Int} {l : Ch.Lk} (h : l.f < 0 ∨ n ≤ l.f ∨ l.t < 0 ∨ n ≤ l.t ∨ l.f = l.t ∨ l.m < -4503599627370496 ∨ 4503599627370496 < l.m) : Ch.okLk n l = false := by
  cases hk : Ch.okLk n l
  · rfl
  · have := Ch.okLk_spec hk
    omega
theorem okLk_true {n : Int} {l : Ch.Lk} (h : 0 ≤ l.f ∧ l.f < n ∧ 0 ≤ l.t ∧ l.t < n ∧ l.f ≠ l.t ∧ -4503599627370496 ≤ l.m ∧ l.m ≤ 4503599627370496) : Ch.okLk n l = true := by
  unfold Ch.okLk Ch.isIx Ch.top
  simp
  omega

set_option maxRecDepth 100000 in
set_option maxHeartbeats 4000000 in
theorem rcheck_loop (n : Int) (a : Option Addr) (cap : Nat) (L : List Ch.Lk) (m : Nat) (hm : Hid (L.length = m)) (h0 : ¬ n < 1) (h1 : ¬ 60 < n) (h2 : ¬ (300 : Int) < (m : Int)) (w : World) (hL : Hid (LksAt w a L)) :
    Calls Tryz.prog 29 #[.agg #[.int .i64 n, .slice a m cap]] w fun e w' => e = .returned (.tuple #[.int .i64 (Ch.check n L).1, .int .i64 (Ch.check n L).2]) ∧ Below w.heap.size w w' := by
  have hm3 : m ≤ 300 := by omega
  obtain ⟨R, hR⟩ : ∃ R, Ch.check n L = R := ⟨_, rfl⟩
  rw [hR]
  replace hR := Lib.hid hR
  go_enter Tryz.func29, Tryz.ntmps29
  go_wp2
  go_loopw [4] (fun i wr => ∃ k : Nat, k ≤ m ∧ i = .int .i64 k ∧ wr.cell? ⟨w.heap.size, 0, none⟩ = some (.int .i64 n) ∧ wr.cell? ⟨w.heap.size, 1, none⟩ = some (.slice a m cap) ∧ Below w.heap.size w wr ∧ w.heap.size < wr.heap.size ∧ Hid (Ch.bad n L 0 = Ch.bad n (L.drop k) k)) (fun i _ => m - (RowKit.intOf i).toNat)
  case atStart => exact ⟨0, Nat.zero_le _, rfl, by simp [go_sem], by simp [go_sem], (by repeat (first | with_reducible exact Below.refl _ _ | with_reducible assumption | refine below_drewN ?_ _ | refine Below.drew ?_ | refine Below.alloc ?_ (by first | (simp; done) | (simp; omega) | omega) _ | refine Below.setCell ?_ (by first | (simp; done) | (simp; omega) | omega) _ | refine Below.trans ?_ (Below.mono (by assumption) (by first | (simp; done) | (simp; omega) | omega)))), by simp, Lib.hid rfl⟩
  case round =>
    obtain ⟨k, hk, rfl, hn, hs, hb, hsz, hbad⟩ := hrel
    by_cases hlt : k < m
    · obtain ⟨x, rfl, hl3⟩ := hL.out k (by have := hm.out; omega)
      obtain ⟨f, t, mo, hl⟩ : ∃ f t mo, L.getD k Ch.noLk = ⟨f, t, mo⟩ := ⟨_, _, _, rfl⟩
      have ⟨hc0, hc1, hc2⟩ := hl3.below hb
      have hst := Ch.bad_step (n := n) (L := L) (k := k) (by have := hm.out; omega)
      rw [hl] at hc0 hc1 hc2 hst
      simp only at hc0 hc1 hc2
      have hF := Lib.hid (fun h => okLk_false (n := n) (l := ⟨f, t, mo⟩) h)
      have hT := Lib.hid (fun h => okLk_true (n := n) (l := ⟨f, t, mo⟩) h)
      replace hst := Lib.hid hst
      clear hl3 hl
      have hi5 : (k : Int) < (m : Int) := by omega
      by_cases c0 : f < 0
      · have hR2 : Hid (R = (1, (k : Int))) := Lib.hid (by rw [← hR.out, Ch.check_mid (by omega) (by omega) (by have := hm.out; omega), hbad.out, hst.out, hF.out (by simp only; omega)]; rfl)
        clear hbad hst hF hT
        go_wp2
        go_ret2
        exact ⟨by rw [hR2.out]; rfl, (by repeat (first | with_reducible exact Below.refl _ _ | with_reducible assumption | refine below_drewN ?_ _ | refine Below.drew ?_ | refine Below.alloc ?_ (by first | (simp; done) | (simp; omega) | omega) _ | refine Below.setCell ?_ (by first | (simp; done) | (simp; omega) | omega) _ | refine Below.trans ?_ (Below.mono (by assumption) (by first | (simp; done) | (simp; omega) | omega))))⟩
      by_cases c1 : n ≤ f
      · have hR2 : Hid (R = (1, (k : Int))) := Lib.hid (by rw [← hR.out, Ch.check_mid (by omega) (by omega) (by have := hm.out; omega), hbad.out, hst.out, hF.out (by simp only; omega)]; rfl)
        clear hbad hst hF hT
        go_wp2
        go_ret2
        exact ⟨by rw [hR2.out]; rfl, (by repeat (first | with_reducible exact Below.refl _ _ | with_reducible assumption | refine below_drewN ?_ _ | refine Below.drew ?_ | refine Below.alloc ?_ (by first | (simp; done) | (simp; omega) | omega) _ | refine Below.setCell ?_ (by first | (simp; done) | (simp; omega) | omega) _ | refine Below.trans ?_ (Below.mono (by assumption) (by first | (simp; done) | (simp; omega) | omega))))⟩
      by_cases c2 : t < 0
      · have hR2 : Hid (R = (1, (k : Int))) := Lib.hid (by rw [← hR.out, Ch.check_mid (by omega) (by omega) (by have := hm.out; omega), hbad.out, hst.out, hF.out (by simp only; omega)]; rfl)
        clear hbad hst hF hT
        go_wp2
        go_ret2
        exact ⟨by rw [hR2.out]; rfl, (by repeat (first | with_reducible exact Below.refl _ _ | with_reducible assumption | refine below_drewN ?_ _ | refine Below.drew ?_ | refine Below.alloc ?_ (by first | (simp; done) | (simp; omega) | omega) _ | refine Below.setCell ?_ (by first | (simp; done) | (simp; omega) | omega) _ | refine Below.trans ?_ (Below.mono (by assumption) (by first | (simp; done) | (simp; omega) | omega))))⟩
      by_cases c3 : n ≤ t
      · have hR2 : Hid (R = (1, (k : Int))) := Lib.hid (by rw [← hR.out, Ch.check_mid (by omega) (by omega) (by have := hm.out; omega), hbad.out, hst.out, hF.out (by simp only; omega)]; rfl)
        clear hbad hst hF hT
        go_wp2
        go_ret2
        exact ⟨by rw [hR2.out]; rfl, (by repeat (first | with_reducible exact Below.refl _ _ | with_reducible assumption | refine below_drewN ?_ _ | refine Below.drew ?_ | refine Below.alloc ?_ (by first | (simp; done) | (simp; omega) | omega) _ | refine Below.setCell ?_ (by first | (simp; done) | (simp; omega) | omega) _ | refine Below.trans ?_ (Below.mono (by assumption) (by first | (simp; done) | (simp; omega) | omega))))⟩
      by_cases c4 : f = t
      · have c9 : (f == t) = true := by rw [c4]; simp
        have hR2 : Hid (R = (1, (k : Int))) := Lib.hid (by rw [← hR.out, Ch.check_mid (by omega) (by omega) (by have := hm.out; omega), hbad.out, hst.out, hF.out (by simp only; omega)]; rfl)
        clear hbad hst hF hT
        go_wp2
        go_ret2
        exact ⟨by rw [hR2.out]; rfl, (by repeat (first | with_reducible exact Below.refl _ _ | with_reducible assumption | refine below_drewN ?_ _ | refine Below.drew ?_ | refine Below.alloc ?_ (by first | (simp; done) | (simp; omega) | omega) _ | refine Below.setCell ?_ (by first | (simp; done) | (simp; omega) | omega) _ | refine Below.trans ?_ (Below.mono (by assumption) (by first | (simp; done) | (simp; omega) | omega))))⟩
      have c9 : (f == t) = false := by rw [beq_eq_false_iff_ne]; exact c4
      by_cases c5 : mo < -4503599627370496
      · have hR2 : Hid (R = (1, (k : Int))) := Lib.hid (by rw [← hR.out, Ch.check_mid (by omega) (by omega) (by have := hm.out; omega), hbad.out, hst.out, hF.out (by simp only; omega)]; rfl)
        clear hbad hst hF hT
        go_wp2
        go_ret2
        exact ⟨by rw [hR2.out]; rfl, (by repeat (first | with_reducible exact Below.refl _ _ | with_reducible assumption | refine below_drewN ?_ _ | refine Below.drew ?_ | refine Below.alloc ?_ (by first | (simp; done) | (simp; omega) | omega) _ | refine Below.setCell ?_ (by first | (simp; done) | (simp; omega) | omega) _ | refine Below.trans ?_ (Below.mono (by assumption) (by first | (simp; done) | (simp; omega) | omega))))⟩
      by_cases c6 : 4503599627370496 < mo
      · have hR2 : Hid (R = (1, (k : Int))) := Lib.hid (by rw [← hR.out, Ch.check_mid (by omega) (by omega) (by have := hm.out; omega), hbad.out, hst.out, hF.out (by simp only; omega)]; rfl)
        clear hbad hst hF hT
        go_wp2
        go_ret2
        exact ⟨by rw [hR2.out]; rfl, (by repeat (first | with_reducible exact Below.refl _ _ | with_reducible assumption | refine below_drewN ?_ _ | refine Below.drew ?_ | refine Below.alloc ?_ (by first | (simp; done) | (simp; omega) | omega) _ | refine Below.setCell ?_ (by first | (simp; done) | (simp; omega) | omega) _ | refine Below.trans ?_ (Below.mono (by assumption) (by first | (simp; done) | (simp; omega) | omega))))⟩
      have hst2 : Hid (Ch.bad n (L.drop k) k = Ch.bad n (L.drop (k + 1)) (k + 1)) := Lib.hid (by rw [hst.out, hT.out (by simp only; omega)]; rfl)
      clear hst hF hT
      go_wp2
      go_roundw
      case rel => exact ⟨k + 1, by omega, by go_num, cell_alloc hn _, cell_alloc hs _, (by repeat (first | with_reducible exact Below.refl _ _ | with_reducible assumption | refine below_drewN ?_ _ | refine Below.drew ?_ | refine Below.alloc ?_ (by first | (simp; done) | (simp; omega) | omega) _ | refine Below.setCell ?_ (by first | (simp; done) | (simp; omega) | omega) _ | refine Below.trans ?_ (Below.mono (by assumption) (by first | (simp; done) | (simp; omega) | omega)))), by simp; omega, Lib.hid (by rw [hbad.out, hst2.out])⟩
      case measure => first | (simp [RowKit.intOf]; done) | (simp [RowKit.intOf]; omega) | omega
    · obtain rfl : k = m := by omega
      have hi5 : ¬ (k : Int) < (k : Int) := by omega
      have hR2 : Hid (R = (0, -1)) := Lib.hid (by rw [← hR.out, Ch.check_mid (by omega) (by omega) (by have := hm.out; omega), hbad.out, List.drop_eq_nil_of_le (by have := hm.out; omega)]; rfl)
      clear hbad
      go_wp2
      go_ret2
      exact ⟨by rw [hR2.out]; rfl, (by repeat (first | with_reducible exact Below.refl _ _ | with_reducible assumption | refine below_drewN ?_ _ | refine Below.drew ?_ | refine Below.alloc ?_ (by first | (simp; done) | (simp; omega) | omega) _ | refine Below.setCell ?_ (by first | (simp; done) | (simp; omega) | omega) _ | refine Below.trans ?_ (Below.mono (by assumption) (by first | (simp; done) | (simp; omega) | omega))))⟩

set_option maxHeartbeats 400000 in
theorem rcheck_low (n : Int) (a : Option Addr) (m cap : Nat) (h : n < 1) (w : World) :
    Calls Tryz.prog 29 #[.agg #[.int .i64 n, .slice a m cap]] w fun e w' => e = .returned (.tuple #[.int .i64 1, .int .i64 (-1)]) ∧ Below w.heap.size w w' := by
  go_enter Tryz.func29, Tryz.ntmps29
  go_wp2
  go_ret2
  exact ⟨rfl, (by repeat (first | with_reducible exact Below.refl _ _ | with_reducible assumption | refine below_drewN ?_ _ | refine Below.drew ?_ | refine Below.alloc ?_ (by first | (simp; done) | (simp; omega) | omega) _ | refine Below.setCell ?_ (by first | (simp; done) | (simp; omega) | omega) _ | refine Below.trans ?_ (Below.mono (by assumption) (by first | (simp; done) | (simp; omega) | omega))))⟩

set_option maxHeartbeats 400000 in
theorem rcheck_high (n : Int) (a : Option Addr) (m cap : Nat) (h : ¬ n < 1) (h2 : 60 < n) (w : World) :
    Calls Tryz.prog 29 #[.agg #[.int .i64 n, .slice a m cap]] w fun e w' => e = .returned (.tuple #[.int .i64 1, .int .i64 (-1)]) ∧ Below w.heap.size w w' := by
  go_enter Tryz.func29, Tryz.ntmps29
  go_wp2
  go_ret2
  exact ⟨rfl, (by repeat (first | with_reducible exact Below.refl _ _ | with_reducible assumption | refine below_drewN ?_ _ | refine Below.drew ?_ | refine Below.alloc ?_ (by first | (simp; done) | (simp; omega) | omega) _ | refine Below.setCell ?_ (by first | (simp; done) | (simp; omega) | omega) _ | refine Below.trans ?_ (Below.mono (by assumption) (by first | (simp; done) | (simp; omega) | omega))))⟩

set_option maxHeartbeats 400000 in
theorem rcheck_long (n : Int) (a : Option Addr) (m cap : Nat) (h0 : ¬ n < 1) (h1 : ¬ 60 < n) (h2 : (300 : Int) < (m : Int)) (w : World) :
    Calls Tryz.prog 29 #[.agg #[.int .i64 n, .slice a m cap]] w fun e w' => e = .returned (.tuple #[.int .i64 2, .int .i64 (-1)]) ∧ Below w.heap.size w w' := by
  go_enter Tryz.func29, Tryz.ntmps29
  go_wp2
  go_ret2
  exact ⟨rfl, (by repeat (first | with_reducible exact Below.refl _ _ | with_reducible assumption | refine below_drewN ?_ _ | refine Below.drew ?_ | refine Below.alloc ?_ (by first | (simp; done) | (simp; omega) | omega) _ | refine Below.setCell ?_ (by first | (simp; done) | (simp; omega) | omega) _ | refine Below.trans ?_ (Below.mono (by assumption) (by first | (simp; done) | (simp; omega) | omega))))⟩

/-- the specification's Check -/
theorem rcheck_any (n : Int) (a : Option Addr) (cap : Nat) (L : List Ch.Lk) (w : World) (hL : LksAt w a L) :
    Calls Tryz.prog 29 #[sysV n a L.length cap] w fun e w' => e = .returned (.tuple #[.int .i64 (Ch.check n L).1, .int .i64 (Ch.check n L).2]) ∧ Below w.heap.size w w' := by
  by_cases h : n < 1
  · rw [Ch.check_n (.inl h)]; exact rcheck_low n a _ cap h w
  by_cases h1 : 60 < n
  · rw [Ch.check_n (.inr h1)]; exact rcheck_high n a _ cap h h1 w
  by_cases h2 : 300 < L.length
  · rw [Ch.check_l (by omega) h2]; exact rcheck_long n a _ cap h h1 (by omega) w
  exact rcheck_loop n a cap L _ (Lib.hid rfl) h h1 (by omega) w (Lib.hid hL)

theorem rerror_any (n : Int) (a : Option Addr) (cap : Nat) (L : List Ch.Lk) (w : World) (hL : LksAt w a L) :
    Calls Tryz.prog 9 #[.agg #[.int .i64 n, .slice a L.length cap]] w fun e w' => e = .returned (.int .i64 (Ch.check n L).1) ∧ Below w.heap.size w w' := by
  have HC := Lib.hid fun (W : World) (hb : Below w.heap.size w W) => rcheck_any n a cap L W (hL.below hb)
  unfold sysV at HC
  generalize Ch.check n L = R at *
  generalize L.length = m at *
  clear hL
  obtain ⟨e1, e2⟩ := R
  go_enter Tryz.func9, Tryz.ntmps9
  go_wp2_with fail
  refine (HC.out _ (below_alloc (Below.refl _ _) _)).mono ?_
  rintro e w1 ⟨rfl, hb1⟩
  go_wp2
  go_ret
  exact ⟨rfl, (by repeat (first | with_reducible exact Below.refl _ _ | with_reducible assumption | refine below_drewN ?_ _ | refine Below.drew ?_ | refine Below.alloc ?_ (by first | (simp; done) | (simp; omega) | omega) _ | refine Below.setCell ?_ (by first | (simp; done) | (simp; omega) | omega) _ | refine Below.trans ?_ (Below.mono (by assumption) (by first | (simp; done) | (simp; omega) | omega))))⟩
end Go.Proofs.YtemacokojdeimaaGreatDoor
