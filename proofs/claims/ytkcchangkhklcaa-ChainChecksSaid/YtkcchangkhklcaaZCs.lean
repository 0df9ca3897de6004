/- Package chain: Consistent. -/
import Derived.Test.YtkcchangkhklcaaZ06
import Derived.Test.YtkcchangkhklcaaZTg
set_option linter.unusedSimpArgs false
set_option linter.unusedVariables false
namespace Ch
def consE (n : Int) (L : List Lk) (k : Nat) : Bool × Int := if (check n L).1 ≠ 0 then (false, (check n L).1) else (cons n.toNat L [] k, 0)
end Ch
namespace Go.Proofs.Ytkcchangkhklcaa
open Go.RowKit

set_option maxRecDepth 100000 in
set_option maxHeartbeats 2000000 in
theorem consistent_bad (n : Int) (a : Option Addr) (m cap : Nat) (ec at1 : Int) (hec : ¬ ec = 0) (w : World) (HC : Hid (∀ W : World, Below w.heap.size w W → Calls Try.prog 11 #[.agg #[.int .i64 n, .slice a m cap]] W fun e w' => e = .returned (.tuple #[.int .i64 ec, .int .i64 at1]) ∧ Below W.heap.size W w')) :
    Calls Try.prog 13 #[.agg #[.int .i64 n, .slice a m cap]] w fun e w' => e = .returned (.tuple #[.bool false, .int .i64 ec]) ∧ Below w.heap.size w w' := by
  have hz : (ec != 0) = true := by rw [bne_iff_ne]; exact hec
  go_enter Try.func13, Try.ntmps13
  go_wp2_with fail
  refine (HC.out _ (below_alloc (Below.refl _ _) _)).mono ?_
  rintro e w1 ⟨rfl, hb1⟩
  have hv1 : Below w.heap.size w w1 := bstep1 (Below.refl _ _) hb1
  clear hb1
  go_wp2
  go_ret2
  exact ⟨rfl, hv1⟩

set_option maxRecDepth 100000 in
set_option maxHeartbeats 2000000 in
theorem consistent_walk (n : Nat) (a : Option Addr) (m cap : Nat) (L : List Ch.Lk) (at1 : Int) (w : World) (HC : Hid (∀ W : World, Below w.heap.size w W → Calls Try.prog 11 #[.agg #[.int .i64 n, .slice a m cap]] W fun e w' => e = .returned (.tuple #[.int .i64 0, .int .i64 at1]) ∧ Below W.heap.size W w'))
    (HN : Hid (∀ W : World, Below w.heap.size w W → Calls Try.prog 46 #[.agg #[.int .i64 n, .slice a m cap]] W fun e w' => ∃ gb ib db V, w.heap.size ≤ gb ∧ e = .returned (.pointer (some ⟨gb, 0, none⟩)) ∧ Hid (Gr w' w'.heap.size gb ib db n m a cap V L (fun i => ([] : List Bool).getD i false)) ∧ Hid (Ap gb ib db n m a V ∧ w.heap.size ≤ db) ∧ Below W.heap.size W w'))
    (r : Bool) (HR : Hid (∀ (W : World) (H gb ib db : Nat) (V : Nat → Value), Gr W H gb ib db n m a cap V L (fun i => ([] : List Bool).getD i false) → Calls Try.prog 47 #[.pointer (some ⟨gb, 0, none⟩)] W fun e w' => e = .returned (.bool r) ∧ Below W.heap.size W w')) :
    Calls Try.prog 13 #[.agg #[.int .i64 n, .slice a m cap]] w fun e w' => e = .returned (.tuple #[.bool r, .int .i64 0]) ∧ Below w.heap.size w w' := by
  go_enter Try.func13, Try.ntmps13
  go_wp2_with fail
  refine (HC.out _ (below_alloc (Below.refl _ _) _)).mono ?_
  rintro e w1 ⟨rfl, hb1⟩
  have k0 : w1.cell? ⟨w.heap.size, 0, none⟩ = some (.int .i64 n) := kept1 (by simp [go_sem]) hb1
  have k1 : w1.cell? ⟨w.heap.size, 1, none⟩ = some (.slice a m cap) := kept1 (by simp [go_sem]) hb1
  have hv1 : Below w.heap.size w w1 := bstep1 (Below.refl _ _) hb1
  clear hb1 HC
  go_wp2_with fail
  refine (HN.out _ hv1).mono ?_
  rintro e w2 ⟨gb, ib, db, V, hge, rfl, hG, hA, hb2⟩
  go_wp2_with fail
  refine (HR.out _ _ _ _ _ _ hG.out).mono ?_
  rintro e w3 ⟨rfl, hb3⟩
  have hv3 : Below w.heap.size w w3 := hv1.trans ((hb2.trans (hb3.mono hb2.size)).mono hv1.size)
  clear hb2 hb3 hG k0 k1 HR HN hA
  go_wp2
  go_ret2
  exact ⟨rfl, hv3⟩

/-- Consistent -/
theorem consistentS_any (n : Int) (a : Option Addr) (cap : Nat) (L : List Ch.Lk) (fuel : Nat) (hE : (Ch.check n L).1 = 0 → Ch.enough n.toNat L [] fuel = true) (w : World) (hL : LksAt w a L) :
    Calls Try.prog 13 #[sysV n a L.length cap] w fun e w' => e = .returned (.tuple #[.bool (Ch.consE n L fuel).1, .int .i64 (Ch.consE n L fuel).2]) ∧ Below w.heap.size w w' := by
  have HC := Lib.hid fun (W : World) (hb : Below w.heap.size w W) => check_any n a cap L W (hL.below hb)
  unfold Ch.consE
  by_cases h : (Ch.check n L).1 = 0
  · rw [if_neg (by omega)]
    rw [h] at HC
    obtain ⟨n1, n2, hm, hok⟩ := Ch.check_ok h
    obtain ⟨N, rfl⟩ : ∃ N : Nat, n = (N : Int) := ⟨n.toNat, by omega⟩
    have hE2 := hE h
    rw [Int.toNat_natCast] at hE2 ⊢
    obtain ⟨R, hR2, hR3⟩ := Ch.enough_levels hE2
    rw [← hR3]
    refine consistent_walk N a _ cap L _ w HC (Lib.hid fun W hb => ?_) R.isSome (Lib.hid fun W H gb ib db V G => consistent_any N gb (by omega) (by omega) L [] fuel R (Lib.hid hR2) H ib db _ a cap V W (Lib.hid G))
    refine (newGraph_any N (by omega) a cap L _ (Lib.hid rfl) hm (Lib.hid hok) W (Lib.hid (hL.below hb))).mono ?_
    rintro e w' ⟨gb, ib, db, V, rfl, h1, h2, h3, h4, h5, h6, h7⟩
    exact ⟨gb, ib, db, V, Nat.le_trans hb.size h4, rfl, Lib.hid (gr_of_ng (w := W) rfl hm hok h1 h2 h3 ((hL.below hb).below h7)), Lib.hid ⟨ap_of_ng (w := W) rfl h1 h2 h3 (hL.below hb) h6, Nat.le_trans hb.size h6⟩, h7⟩
  · rw [if_pos h]
    exact consistent_bad n a _ cap _ _ h w HC
/-- Consistent, whatever the system: true exactly when it is valid and has a solution -/
theorem consistentS_sol (n : Int) (a : Option Addr) (cap : Nat) (L : List Ch.Lk) (w : World) (hL : LksAt w a L) :
    ∃ r : Bool, (r = true ↔ (Ch.check n L).1 = 0 ∧ ∃ σ, Ch.Sol L [] σ) ∧ Calls Try.prog 13 #[sysV n a L.length cap] w fun e w' => e = .returned (.tuple #[.bool r, .int .i64 (Ch.check n L).1]) ∧ Below w.heap.size w w' := by
  by_cases h : (Ch.check n L).1 = 0
  · obtain ⟨n1, n2, hm, hok⟩ := Ch.check_ok h
    obtain ⟨N, rfl⟩ : ∃ N : Nat, n = (N : Int) := ⟨n.toNat, by omega⟩
    obtain ⟨K, hK⟩ := Ch.enough_ex (n := N) (by omega) (by omega) hok
    obtain ⟨h1, h2⟩ := hK K [] (Nat.le_refl _)
    have h3 := consistentS_any N a cap L K (fun _ => by rw [Int.toNat_natCast]; exact h1) w hL
    unfold Ch.consE at h3
    rw [if_neg (by omega), Int.toNat_natCast] at h3
    exact ⟨_, ⟨fun e => ⟨h, h2.1 e⟩, fun e => h2.2 e.2⟩, by rw [h]; exact h3⟩
  · have h3 := consistentS_any n a cap L 0 (fun e => absurd e h) w hL
    unfold Ch.consE at h3
    rw [if_pos h] at h3
    exact ⟨false, ⟨(fun e => by cases e), (fun e => absurd e.1 h)⟩, h3⟩
end Go.Proofs.Ytkcchangkhklcaa
