/- Contracts of package chain: CheckChain. -/
import Derived.Test.YtpddjofmiakpbaaZ06
set_option linter.unusedSimpArgs false
set_option linter.unusedVariables false
namespace Go.Proofs.Ytpddjofmiakpbaa
open Go.RowKit

set_option maxRecDepth 100000 in
set_option maxHeartbeats 1000000 in
theorem chain_bad (n : Int) (a : Option Addr) (m cap : Nat) (b : Option Addr) (q cap2 : Nat) (u v at1 : Int) (ec : Int) (hec : ¬ ec = 0) (w : World) (HC : Hid (∀ W : World, Below w.heap.size w W → Calls Try.prog 17 #[.agg #[.int .i64 n, .slice a m cap]] W fun e w' => e = .returned (.tuple #[.int .i64 ec, .int .i64 at1]) ∧ Below W.heap.size W w')) :
    Calls Try.prog 37 #[.agg #[.int .i64 n, .slice a m cap], .int .i64 u, .int .i64 v, .slice b q cap2] w fun e w' => e = .returned (.tuple #[.int .i64 0, .int .i64 ec]) ∧ Below w.heap.size w w' := by
  go_enter Try.func37, Try.ntmps37
  go_wp2_with fail
  refine (HC.out _ (below_alloc (Below.refl _ _) _)).mono ?_
  rintro e w1 ⟨rfl, hb1⟩
  have k1_0 : w1.cell? ⟨w.heap.size, 0, none⟩ = some (.int .i64 n) := kept1 (by simp [go_sem]) hb1
  have k1_1 : w1.cell? ⟨w.heap.size, 1, none⟩ = some (.slice a m cap) := kept1 (by simp [go_sem]) hb1
  have hv1 : Below w.heap.size w w1 := bstep1 (Below.refl _ _) hb1
  have lk1 := block_lt_of_cell k1_0
  clear hb1
  go_wp2
  go_ret2
  exact ⟨by first | rfl | (simp; done) | (simp; omega), (by repeat (first | with_reducible exact Below.refl _ _ | with_reducible assumption | refine below_drewN ?_ _ | refine Below.drew ?_ | refine Below.alloc ?_ (by first | (simp; done) | (simp; omega) | omega) _ | refine Below.setCell ?_ (by first | (simp; done) | (simp; omega) | omega) _ | refine Below.trans ?_ (Below.mono (by assumption) (by first | (simp; done) | (simp; omega) | omega))))⟩

set_option maxRecDepth 100000 in
set_option maxHeartbeats 1000000 in
theorem chain_u (n : Int) (a : Option Addr) (m cap : Nat) (b : Option Addr) (q cap2 : Nat) (u v at1 : Int)  (w : World) (HC : Hid (∀ W : World, Below w.heap.size w W → Calls Try.prog 17 #[.agg #[.int .i64 n, .slice a m cap]] W fun e w' => e = .returned (.tuple #[.int .i64 0, .int .i64 at1]) ∧ Below W.heap.size W w')) (I1 : Hid (∀ W : World, Calls Try.prog 68 #[.int .i64 u, .int .i64 n] W fun e w' => e = .returned (.bool false) ∧ w' = W)) :
    Calls Try.prog 37 #[.agg #[.int .i64 n, .slice a m cap], .int .i64 u, .int .i64 v, .slice b q cap2] w fun e w' => e = .returned (.tuple #[.int .i64 0, .int .i64 1]) ∧ Below w.heap.size w w' := by
  go_enter Try.func37, Try.ntmps37
  go_wp2_with fail
  refine (HC.out _ (below_alloc (Below.refl _ _) _)).mono ?_
  rintro e w1 ⟨rfl, hb1⟩
  have k1_0 : w1.cell? ⟨w.heap.size, 0, none⟩ = some (.int .i64 n) := kept1 (by simp [go_sem]) hb1
  have k1_1 : w1.cell? ⟨w.heap.size, 1, none⟩ = some (.slice a m cap) := kept1 (by simp [go_sem]) hb1
  have hv1 : Below w.heap.size w w1 := bstep1 (Below.refl _ _) hb1
  have lk1 := block_lt_of_cell k1_0
  clear hb1
  go_wp2_with fail
  refine (I1.out _).mono ?_
  rintro e w9 ⟨rfl, hw⟩
  subst hw
  go_wp2
  go_ret2
  exact ⟨by first | rfl | (simp; done) | (simp; omega), (by repeat (first | with_reducible exact Below.refl _ _ | with_reducible assumption | refine below_drewN ?_ _ | refine Below.drew ?_ | refine Below.alloc ?_ (by first | (simp; done) | (simp; omega) | omega) _ | refine Below.setCell ?_ (by first | (simp; done) | (simp; omega) | omega) _ | refine Below.trans ?_ (Below.mono (by assumption) (by first | (simp; done) | (simp; omega) | omega))))⟩

set_option maxRecDepth 100000 in
set_option maxHeartbeats 1000000 in
theorem chain_v (n : Int) (a : Option Addr) (m cap : Nat) (b : Option Addr) (q cap2 : Nat) (u v at1 : Int)  (w : World) (HC : Hid (∀ W : World, Below w.heap.size w W → Calls Try.prog 17 #[.agg #[.int .i64 n, .slice a m cap]] W fun e w' => e = .returned (.tuple #[.int .i64 0, .int .i64 at1]) ∧ Below W.heap.size W w')) (I1 : Hid (∀ W : World, Calls Try.prog 68 #[.int .i64 u, .int .i64 n] W fun e w' => e = .returned (.bool true) ∧ w' = W)) (I2 : Hid (∀ W : World, Calls Try.prog 68 #[.int .i64 v, .int .i64 n] W fun e w' => e = .returned (.bool false) ∧ w' = W)) :
    Calls Try.prog 37 #[.agg #[.int .i64 n, .slice a m cap], .int .i64 u, .int .i64 v, .slice b q cap2] w fun e w' => e = .returned (.tuple #[.int .i64 0, .int .i64 1]) ∧ Below w.heap.size w w' := by
  go_enter Try.func37, Try.ntmps37
  go_wp2_with fail
  refine (HC.out _ (below_alloc (Below.refl _ _) _)).mono ?_
  rintro e w1 ⟨rfl, hb1⟩
  have k1_0 : w1.cell? ⟨w.heap.size, 0, none⟩ = some (.int .i64 n) := kept1 (by simp [go_sem]) hb1
  have k1_1 : w1.cell? ⟨w.heap.size, 1, none⟩ = some (.slice a m cap) := kept1 (by simp [go_sem]) hb1
  have hv1 : Below w.heap.size w w1 := bstep1 (Below.refl _ _) hb1
  have lk1 := block_lt_of_cell k1_0
  clear hb1
  go_wp2_with fail
  refine (I1.out _).mono ?_
  rintro e w9 ⟨rfl, hw⟩
  subst hw
  go_wp2_with fail
  refine (I2.out _).mono ?_
  rintro e w9 ⟨rfl, hw⟩
  subst hw
  go_wp2
  go_ret2
  exact ⟨by first | rfl | (simp; done) | (simp; omega), (by repeat (first | with_reducible exact Below.refl _ _ | with_reducible assumption | refine below_drewN ?_ _ | refine Below.drew ?_ | refine Below.alloc ?_ (by first | (simp; done) | (simp; omega) | omega) _ | refine Below.setCell ?_ (by first | (simp; done) | (simp; omega) | omega) _ | refine Below.trans ?_ (Below.mono (by assumption) (by first | (simp; done) | (simp; omega) | omega))))⟩

set_option maxRecDepth 100000 in
set_option maxHeartbeats 1000000 in
theorem chain_ix (n : Int) (a : Option Addr) (m cap : Nat) (b : Option Addr) (q cap2 : Nat) (u v at1 : Int) (ex : Int) (hex : ¬ ex = 0) (w : World) (HC : Hid (∀ W : World, Below w.heap.size w W → Calls Try.prog 17 #[.agg #[.int .i64 n, .slice a m cap]] W fun e w' => e = .returned (.tuple #[.int .i64 0, .int .i64 at1]) ∧ Below W.heap.size W w')) (I1 : Hid (∀ W : World, Calls Try.prog 68 #[.int .i64 u, .int .i64 n] W fun e w' => e = .returned (.bool true) ∧ w' = W)) (I2 : Hid (∀ W : World, Calls Try.prog 68 #[.int .i64 v, .int .i64 n] W fun e w' => e = .returned (.bool true) ∧ w' = W)) (HX : Hid (∀ W : World, Below w.heap.size w W → Calls Try.prog 66 #[.agg #[.int .i64 n, .slice a m cap], .slice b q cap2] W fun e w' => e = .returned (.int .i64 ex) ∧ Below W.heap.size W w')) :
    Calls Try.prog 37 #[.agg #[.int .i64 n, .slice a m cap], .int .i64 u, .int .i64 v, .slice b q cap2] w fun e w' => e = .returned (.tuple #[.int .i64 0, .int .i64 ex]) ∧ Below w.heap.size w w' := by
  go_enter Try.func37, Try.ntmps37
  go_wp2_with fail
  refine (HC.out _ (below_alloc (Below.refl _ _) _)).mono ?_
  rintro e w1 ⟨rfl, hb1⟩
  have k1_0 : w1.cell? ⟨w.heap.size, 0, none⟩ = some (.int .i64 n) := kept1 (by simp [go_sem]) hb1
  have k1_1 : w1.cell? ⟨w.heap.size, 1, none⟩ = some (.slice a m cap) := kept1 (by simp [go_sem]) hb1
  have hv1 : Below w.heap.size w w1 := bstep1 (Below.refl _ _) hb1
  have lk1 := block_lt_of_cell k1_0
  clear hb1
  go_wp2_with fail
  refine (I1.out _).mono ?_
  rintro e w9 ⟨rfl, hw⟩
  subst hw
  go_wp2_with fail
  refine (I2.out _).mono ?_
  rintro e w9 ⟨rfl, hw⟩
  subst hw
  go_wp2_with fail
  refine (HX.out _ hv1).mono ?_
  rintro e w2 ⟨rfl, hb2⟩
  have k2_0 : w2.cell? ⟨w.heap.size, 0, none⟩ = some (.int .i64 n) := kept1 k1_0 hb2
  have k2_1 : w2.cell? ⟨w.heap.size, 1, none⟩ = some (.slice a m cap) := kept1 k1_1 hb2
  have hv2 : Below w.heap.size w w2 := bstep0 hv1 hb2
  have lk2 := block_lt_of_cell k2_0
  clear hb2 hv1 k1_0 k1_1 lk1
  go_wp2
  go_ret2
  exact ⟨by first | rfl | (simp; done) | (simp; omega), (by repeat (first | with_reducible exact Below.refl _ _ | with_reducible assumption | refine below_drewN ?_ _ | refine Below.drew ?_ | refine Below.alloc ?_ (by first | (simp; done) | (simp; omega) | omega) _ | refine Below.setCell ?_ (by first | (simp; done) | (simp; omega) | omega) _ | refine Below.trans ?_ (Below.mono (by assumption) (by first | (simp; done) | (simp; omega) | omega))))⟩

set_option maxRecDepth 100000 in
set_option maxHeartbeats 1000000 in
theorem chain_no (n : Int) (a : Option Addr) (m cap : Nat) (b : Option Addr) (q cap2 : Nat) (u v at1 : Int) (sum : Int) (w : World) (HC : Hid (∀ W : World, Below w.heap.size w W → Calls Try.prog 17 #[.agg #[.int .i64 n, .slice a m cap]] W fun e w' => e = .returned (.tuple #[.int .i64 0, .int .i64 at1]) ∧ Below W.heap.size W w')) (I1 : Hid (∀ W : World, Calls Try.prog 68 #[.int .i64 u, .int .i64 n] W fun e w' => e = .returned (.bool true) ∧ w' = W)) (I2 : Hid (∀ W : World, Calls Try.prog 68 #[.int .i64 v, .int .i64 n] W fun e w' => e = .returned (.bool true) ∧ w' = W)) (HX : Hid (∀ W : World, Below w.heap.size w W → Calls Try.prog 66 #[.agg #[.int .i64 n, .slice a m cap], .slice b q cap2] W fun e w' => e = .returned (.int .i64 0) ∧ Below W.heap.size W w')) (HF : Hid (∀ W : World, Below w.heap.size w W → Calls Try.prog 67 #[.agg #[.int .i64 n, .slice a m cap], .int .i64 u, .int .i64 v, .slice b q cap2] W fun e w' => e = .returned (.tuple #[.int .i64 sum, .bool false]) ∧ Below W.heap.size W w')) :
    Calls Try.prog 37 #[.agg #[.int .i64 n, .slice a m cap], .int .i64 u, .int .i64 v, .slice b q cap2] w fun e w' => e = .returned (.tuple #[.int .i64 0, .int .i64 8]) ∧ Below w.heap.size w w' := by
  go_enter Try.func37, Try.ntmps37
  go_wp2_with fail
  refine (HC.out _ (below_alloc (Below.refl _ _) _)).mono ?_
  rintro e w1 ⟨rfl, hb1⟩
  have k1_0 : w1.cell? ⟨w.heap.size, 0, none⟩ = some (.int .i64 n) := kept1 (by simp [go_sem]) hb1
  have k1_1 : w1.cell? ⟨w.heap.size, 1, none⟩ = some (.slice a m cap) := kept1 (by simp [go_sem]) hb1
  have hv1 : Below w.heap.size w w1 := bstep1 (Below.refl _ _) hb1
  have lk1 := block_lt_of_cell k1_0
  clear hb1
  go_wp2_with fail
  refine (I1.out _).mono ?_
  rintro e w9 ⟨rfl, hw⟩
  subst hw
  go_wp2_with fail
  refine (I2.out _).mono ?_
  rintro e w9 ⟨rfl, hw⟩
  subst hw
  go_wp2_with fail
  refine (HX.out _ hv1).mono ?_
  rintro e w2 ⟨rfl, hb2⟩
  have k2_0 : w2.cell? ⟨w.heap.size, 0, none⟩ = some (.int .i64 n) := kept1 k1_0 hb2
  have k2_1 : w2.cell? ⟨w.heap.size, 1, none⟩ = some (.slice a m cap) := kept1 k1_1 hb2
  have hv2 : Below w.heap.size w w2 := bstep0 hv1 hb2
  have lk2 := block_lt_of_cell k2_0
  clear hb2 hv1 k1_0 k1_1 lk1
  go_wp2_with fail
  refine (HF.out _ hv2).mono ?_
  rintro e w3 ⟨rfl, hb3⟩
  have k3_0 : w3.cell? ⟨w.heap.size, 0, none⟩ = some (.int .i64 n) := kept1 k2_0 hb3
  have k3_1 : w3.cell? ⟨w.heap.size, 1, none⟩ = some (.slice a m cap) := kept1 k2_1 hb3
  have hv3 : Below w.heap.size w w3 := bstep0 hv2 hb3
  have lk3 := block_lt_of_cell k3_0
  clear hb3 hv2 k2_0 k2_1 lk2
  go_wp2
  go_ret2
  exact ⟨by first | rfl | (simp; done) | (simp; omega), (by repeat (first | with_reducible exact Below.refl _ _ | with_reducible assumption | refine below_drewN ?_ _ | refine Below.drew ?_ | refine Below.alloc ?_ (by first | (simp; done) | (simp; omega) | omega) _ | refine Below.setCell ?_ (by first | (simp; done) | (simp; omega) | omega) _ | refine Below.trans ?_ (Below.mono (by assumption) (by first | (simp; done) | (simp; omega) | omega))))⟩

set_option maxRecDepth 100000 in
set_option maxHeartbeats 1000000 in
theorem chain_yes (n : Int) (a : Option Addr) (m cap : Nat) (b : Option Addr) (q cap2 : Nat) (u v at1 : Int) (sum : Int) (w : World) (HC : Hid (∀ W : World, Below w.heap.size w W → Calls Try.prog 17 #[.agg #[.int .i64 n, .slice a m cap]] W fun e w' => e = .returned (.tuple #[.int .i64 0, .int .i64 at1]) ∧ Below W.heap.size W w')) (I1 : Hid (∀ W : World, Calls Try.prog 68 #[.int .i64 u, .int .i64 n] W fun e w' => e = .returned (.bool true) ∧ w' = W)) (I2 : Hid (∀ W : World, Calls Try.prog 68 #[.int .i64 v, .int .i64 n] W fun e w' => e = .returned (.bool true) ∧ w' = W)) (HX : Hid (∀ W : World, Below w.heap.size w W → Calls Try.prog 66 #[.agg #[.int .i64 n, .slice a m cap], .slice b q cap2] W fun e w' => e = .returned (.int .i64 0) ∧ Below W.heap.size W w')) (HF : Hid (∀ W : World, Below w.heap.size w W → Calls Try.prog 67 #[.agg #[.int .i64 n, .slice a m cap], .int .i64 u, .int .i64 v, .slice b q cap2] W fun e w' => e = .returned (.tuple #[.int .i64 sum, .bool true]) ∧ Below W.heap.size W w')) :
    Calls Try.prog 37 #[.agg #[.int .i64 n, .slice a m cap], .int .i64 u, .int .i64 v, .slice b q cap2] w fun e w' => e = .returned (.tuple #[.int .i64 sum, .int .i64 0]) ∧ Below w.heap.size w w' := by
  go_enter Try.func37, Try.ntmps37
  go_wp2_with fail
  refine (HC.out _ (below_alloc (Below.refl _ _) _)).mono ?_
  rintro e w1 ⟨rfl, hb1⟩
  have k1_0 : w1.cell? ⟨w.heap.size, 0, none⟩ = some (.int .i64 n) := kept1 (by simp [go_sem]) hb1
  have k1_1 : w1.cell? ⟨w.heap.size, 1, none⟩ = some (.slice a m cap) := kept1 (by simp [go_sem]) hb1
  have hv1 : Below w.heap.size w w1 := bstep1 (Below.refl _ _) hb1
  have lk1 := block_lt_of_cell k1_0
  clear hb1
  go_wp2_with fail
  refine (I1.out _).mono ?_
  rintro e w9 ⟨rfl, hw⟩
  subst hw
  go_wp2_with fail
  refine (I2.out _).mono ?_
  rintro e w9 ⟨rfl, hw⟩
  subst hw
  go_wp2_with fail
  refine (HX.out _ hv1).mono ?_
  rintro e w2 ⟨rfl, hb2⟩
  have k2_0 : w2.cell? ⟨w.heap.size, 0, none⟩ = some (.int .i64 n) := kept1 k1_0 hb2
  have k2_1 : w2.cell? ⟨w.heap.size, 1, none⟩ = some (.slice a m cap) := kept1 k1_1 hb2
  have hv2 : Below w.heap.size w w2 := bstep0 hv1 hb2
  have lk2 := block_lt_of_cell k2_0
  clear hb2 hv1 k1_0 k1_1 lk1
  go_wp2_with fail
  refine (HF.out _ hv2).mono ?_
  rintro e w3 ⟨rfl, hb3⟩
  have k3_0 : w3.cell? ⟨w.heap.size, 0, none⟩ = some (.int .i64 n) := kept1 k2_0 hb3
  have k3_1 : w3.cell? ⟨w.heap.size, 1, none⟩ = some (.slice a m cap) := kept1 k2_1 hb3
  have hv3 : Below w.heap.size w w3 := bstep0 hv2 hb3
  have lk3 := block_lt_of_cell k3_0
  clear hb3 hv2 k2_0 k2_1 lk2
  go_wp2
  go_ret2
  exact ⟨by first | rfl | (simp; done) | (simp; omega), (by repeat (first | with_reducible exact Below.refl _ _ | with_reducible assumption | refine below_drewN ?_ _ | refine Below.drew ?_ | refine Below.alloc ?_ (by first | (simp; done) | (simp; omega) | omega) _ | refine Below.setCell ?_ (by first | (simp; done) | (simp; omega) | omega) _ | refine Below.trans ?_ (Below.mono (by assumption) (by first | (simp; done) | (simp; omega) | omega))))⟩

theorem follow_any (n : Int) (a : Option Addr) (cap : Nat) (L : List Ch.Lk) (hok : ∀ j, j < L.length → Ch.okLk n (L.getD j Ch.noLk) = true) (u v : Int) (b : Option Addr) (cap2 : Nat) (l : List Int) (hl80 : l.length ≤ 80) (hix : ∀ k, k < l.length → 0 ≤ l.getD k 0 ∧ l.getD k 0 < (L.length : Int)) (w : World) (hL : LksAt w a L) (hl : IntsAt w b l) :
    Calls Try.prog 67 #[sysV n a L.length cap, .int .i64 u, .int .i64 v, .slice b l.length cap2] w fun e w' => e = .returned (.tuple #[.int .i64 (Ch.follow L v l u 0).1, .bool (Ch.follow L v l u 0).2]) ∧ Below w.heap.size w w' := by
  cases l with
  | nil => exact follow_none n a _ cap u v b cap2 w
  | cons z r =>
    obtain ⟨x, rfl, _⟩ := hl 0 (by simp)
    have hz := hix 0 (by simp)
    obtain ⟨y, rfl, _⟩ := hL 0 (by omega)
    exact follow_loop n y _ cap L (Lib.hid rfl) (Lib.hid hok) u v x _ cap2 (z :: r) (Lib.hid rfl) hl80 (Lib.hid hix) w (Lib.hid hL) (Lib.hid hl)

/-- CheckChain -/
theorem checkChain_any (n : Int) (a : Option Addr) (cap : Nat) (L : List Ch.Lk) (u v : Int) (b : Option Addr) (cap2 : Nat) (l : List Int) (w : World) (hL : LksAt w a L) (hl : IntsAt w b l) :
    Calls Try.prog 37 #[sysV n a L.length cap, .int .i64 u, .int .i64 v, .slice b l.length cap2] w fun e w' => e = .returned (.tuple #[.int .i64 (Ch.checkChain n L u v l).1, .int .i64 (Ch.checkChain n L u v l).2]) ∧ Below w.heap.size w w' := by
  have HC := Lib.hid fun (W : World) (hb : Below w.heap.size w W) => check_any n a cap L W (hL.below hb)
  have HX := Lib.hid fun (W : World) (hb : Below w.heap.size w W) => checkIx_any n a L.length cap b cap2 l W (hl.below hb)
  have I1 := isIndex_any u n
  have I2 := isIndex_any v n
  unfold Ch.checkChain
  by_cases h : (Ch.check n L).1 = 0
  · rw [if_neg (by omega)]
    rw [h] at HC
    cases hu : Ch.isIx u n
    · rw [hu] at I1
      rw [if_pos (by simp)]
      exact chain_u n a _ cap b _ cap2 u v _ w HC (Lib.hid I1)
    rw [hu] at I1
    cases hv : Ch.isIx v n
    · rw [hv] at I2
      rw [if_pos (by simp)]
      exact chain_v n a _ cap b _ cap2 u v _ w HC (Lib.hid I1) (Lib.hid I2)
    rw [hv] at I2
    rw [if_neg (by simp)]
    by_cases h2 : Ch.ixErr L.length l = 0
    · rw [if_neg (by omega)]
      rw [h2] at HX
      obtain ⟨q1, q2⟩ := Ch.ix_ok h2
      have HF := Lib.hid fun (W : World) (hb : Below w.heap.size w W) => follow_any n a cap L (Ch.check_ok h).2.2.2 u v b cap2 l q1 q2 W (hL.below hb) (hl.below hb)
      generalize Ch.follow L v l u 0 = R at *
      obtain ⟨sum, ok⟩ := R
      cases ok
      · rw [if_neg (by simp)]
        exact chain_no n a _ cap b _ cap2 u v _ sum w HC (Lib.hid I1) (Lib.hid I2) HX HF
      · rw [if_pos rfl]
        exact chain_yes n a _ cap b _ cap2 u v _ sum w HC (Lib.hid I1) (Lib.hid I2) HX HF
    · rw [if_pos h2]
      exact chain_ix n a _ cap b _ cap2 u v _ _ h2 w HC (Lib.hid I1) (Lib.hid I2) HX
  · rw [if_pos h]
    exact chain_bad n a _ cap b _ cap2 u v _ _ h w HC
end Go.Proofs.Ytpddjofmiakpbaa
