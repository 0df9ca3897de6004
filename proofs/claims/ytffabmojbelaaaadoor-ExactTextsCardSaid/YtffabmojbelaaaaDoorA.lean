/- Contracts of the small functions of package exact and of its specification: absolute values, greatest common divisors, validity. -/
import Derived.Test.YtffabmojbelaaaaDoorProg
import Derived.Test.YtffabmojbelaaaaDoorRt
import Derived.WalkKit
import Derived.WalkLawsBesides
import Derived.WalkSpells
import Derived.Lib.Hide
import Derived.Deep.QuietTactic
import Derived.BigQuiet
import Derived.BigRegion
import Derived.Deep.RegionWith
import Derived.Deep.RegionHeld3
import Derived.Deep.RegionLaw
import Derived.Deep.LoopGhost
import Derived.Deep.DeepMust
import Derived.Deep.DeepCutAuto
import Derived.Deep.DeepFit
namespace Go.Proofs.YtffabmojbelaaaaDoor
open Go.RowKit
theorem ret_u64 {a b : Int} (h : a = b) : Ending.returned (.int .u64 a) = .returned (.int .u64 b) := by rw [h]
theorem ret_i64 {a b : Int} (h : a = b) : Ending.returned (.int .i64 a) = .returned (.int .i64 b) := by rw [h]
theorem ret_bool {a b : Bool} (h : a = b) : Ending.returned (.bool a) = .returned (.bool b) := by rw [h]
theorem mag_wrap {n : Int} (h : n < 0) (h0 : -9223372036854775808 ≤ n) : IntKind.u64.wrap (-IntKind.u64.wrap n) = (n.natAbs : Int) := by
  rw [IntKind.wrap_u64, IntKind.wrap_u64]; omega

/-- what a call has not touched, as two rules for the walk -/
theorem bcell {W w1 : World} (hb : Below W.heap.size W w1) : (∀ b o, b < W.heap.size → w1.cell? ⟨b, o, none⟩ = W.cell? ⟨b, o, none⟩) ∧ (∀ b o, b < W.heap.size → w1.frozen? ⟨b, o, none⟩ = W.frozen? ⟨b, o, none⟩) :=
  ⟨fun b o h => hb.cell (p := ⟨b, o, none⟩) h, fun b o h => hb.frozen (p := ⟨b, o, none⟩) h⟩

set_option maxHeartbeats 400000 in
theorem mag_any (n : Int) (h0 : -9223372036854775808 ≤ n) (h1 : n ≤ 9223372036854775807) (w : World) :
    Calls Tryd.prog 73 #[.int .i64 n] w fun e w' => e = .returned (.int .u64 n.natAbs) ∧ w' = w := by
  by_cases h : n < 0
  · have e := Lib.hid (mag_wrap h h0)
    go_enter Tryd.func73, Tryd.ntmps73
    go_wp2
    go_ret
    exact ⟨ret_u64 e.out, rfl⟩
  · go_enter Tryd.func73, Tryd.ntmps73
    go_wp2
    go_ret
    exact ⟨ret_u64 (by omega), rfl⟩

set_option maxHeartbeats 400000 in
theorem opp_any (n d : Int) (h0 : -9223372036854775807 ≤ n) (h1 : n ≤ 9223372036854775807) (w : World) :
    Calls Tryd.prog 75 #[.agg #[.int .i64 n, .int .i64 d]] w fun e w' => e = .returned (.agg #[.int .i64 (-n), .int .i64 d]) ∧ Below w.heap.size w w' := by
  go_enter Tryd.func75, Tryd.ntmps75
  go_wp2
  refine bodyPost_ret (v := .agg #[.int .i64 (-n), .int .i64 d]) (by simp [results, Tryd.results75, go_sem]) rfl ?_
  exact ⟨rfl, by repeat (first | exact Below.refl _ _ | refine Below.alloc ?_ (by simp) _)⟩

theorem gcd_step (a b : Nat) : Nat.gcd b (a % b) = Nat.gcd a b := by rw [Nat.gcd_comm b, ← Nat.gcd_rec, Nat.gcd_comm]
theorem natmod (a b : Nat) : ((a : Int) % (b : Int)) = ((a % b : Nat) : Int) := rfl

set_option maxHeartbeats 400000 in
theorem cd_any (a b : Nat) (ha : a ≤ 9223372036854775808) (hb : b ≤ 9223372036854775808) (w : World) :
    Calls Tryd.prog 74 #[.int .u64 a, .int .u64 b] w fun e w' => e = .returned (.int .u64 (Nat.gcd a b)) ∧ ∃ m, w' = w.drewN m := by
  go_enter Tryd.func74, Tryd.ntmps74
  go_wp2
  go_loopw [0, 1] (fun x y wr => ∃ p q : Nat, p ≤ 9223372036854775808 ∧ q ≤ 9223372036854775808 ∧ Hid (Nat.gcd p q = Nat.gcd a b) ∧ x = .int .u64 p ∧ y = .int .u64 q ∧ Hid (∃ m, wr = w.drewN m)) (fun _ y _ => (intOf y).toNat)
  case atStart => exact ⟨a, b, ha, hb, Lib.hid rfl, rfl, rfl, Lib.hid ⟨0, rfl⟩⟩
  case round =>
    obtain ⟨p, q, hp, hq, hg, rfl, rfl, hw⟩ := hrel
    by_cases h : q = 0
    · have h0 : ((q : Int) == 0) = true := by subst h; rfl
      subst h
      go_wp2
      go_ret
      exact ⟨ret_u64 (by rw [← hg.out, Nat.gcd_zero_right]), hw.out⟩
    · have h0 : ((q : Int) == 0) = false := by rw [beq_eq_false_iff_ne]; omega
      have h1 : 1 ≤ (q : Int) := by omega
      go_wp2
      go_region
      go_wp2
      go_roundw
      case rel => exact ⟨q, p % q, hq, Nat.le_trans (Nat.mod_le _ _) hp, Lib.hid (by rw [gcd_step]; exact hg.out), rfl, rfl, Lib.hid (hw.out.elim fun m hm => ⟨m + 1, by rw [hm]; rfl⟩)⟩
      case measure => simp [intOf]; have := Nat.mod_lt p (show 0 < q by omega); omega

set_option maxHeartbeats 400000 in
theorem valid_out (n d : Int) (w : World) (h : ¬ (1 ≤ d ∧ d ≤ 2147483647 ∧ -2147483647 ≤ n ∧ n ≤ 2147483647)) :
    Calls Tryd.prog 21 #[.agg #[.int .i64 n, .int .i64 d]] w fun e w' => e = .returned (.bool false) ∧ Below w.heap.size w w' := by
  have hd : (decide (d < 1) || decide (2147483647 < d) || decide (n < -2147483647) || decide (2147483647 < n)) = true := by simp; omega
  go_enter Tryd.func21, Tryd.ntmps21
  go_wp2
  all_goals
    go_ret
    exact ⟨rfl, (Below.refl _ _).alloc (Nat.le_refl _) _⟩

set_option maxHeartbeats 400000 in
theorem valid_in (n d : Int) (w : World) (h1 : 1 ≤ d) (h2 : d ≤ 2147483647) (h3 : -2147483647 ≤ n) (h4 : n ≤ 2147483647) :
    Calls Tryd.prog 21 #[.agg #[.int .i64 n, .int .i64 d]] w fun e w' => e = .returned (.bool ((Nat.gcd n.natAbs d.natAbs : Int) == 1)) ∧ Below w.heap.size w w' := by
  go_enter Tryd.func21, Tryd.ntmps21
  go_wp2_with fail
  go_quiet (first | (go_at_call 73; exact Calls.quiet_of_same (mag_any _ (by omega) (by omega) _)) | (go_at_call 74; refine Calls.quiet_of (cd_any _ _ (by omega) (by omega) _)))
  go_wp2
  go_ret
  exact ⟨rfl, (by repeat (first | with_reducible exact Below.refl _ _ | with_reducible assumption | refine below_drewN ?_ _ | refine Below.drew ?_ | refine Below.alloc ?_ (by first | (simp; done) | (simp; omega) | omega) _ | refine Below.setCell ?_ (by first | (simp; done) | (simp; omega) | omega) _ | refine Below.trans ?_ (Below.mono (by assumption) (by first | (simp; done) | (simp; omega) | omega))))⟩

theorem gcd_dec {n d : Int} (h : Rt.vldP n d) : ((Nat.gcd n.natAbs d.natAbs : Int) == 1) = true := by
  have := h.2.2.2.2; rw [Int.gcd_eq_natAbs_gcd_natAbs] at this; rw [this]; rfl
theorem gcd_dec_no {n d : Int} (h : ¬ Rt.vldP n d) (h1 : 1 ≤ d) (h2 : d ≤ 2147483647) (h3 : -2147483647 ≤ n) (h4 : n ≤ 2147483647) : ((Nat.gcd n.natAbs d.natAbs : Int) == 1) = false := by
  rw [beq_eq_false_iff_ne]; intro e
  exact h ⟨h1, h2, h3, h4, by rw [Int.gcd_eq_natAbs_gcd_natAbs]; omega⟩

theorem valid_yes (n d : Int) (w : World) (h : Rt.vldP n d) :
    Calls Tryd.prog 21 #[.agg #[.int .i64 n, .int .i64 d]] w fun e w' => e = .returned (.bool true) ∧ Below w.heap.size w w' :=
  (valid_in n d w h.1 h.2.1 h.2.2.1 h.2.2.2.1).mono fun _ _ ⟨he, hb⟩ => ⟨by rw [he, gcd_dec h], hb⟩
theorem valid_not (n d : Int) (w : World) (h : ¬ Rt.vldP n d) :
    Calls Tryd.prog 21 #[.agg #[.int .i64 n, .int .i64 d]] w fun e w' => e = .returned (.bool false) ∧ Below w.heap.size w w' := by
  by_cases h0 : 1 ≤ d ∧ d ≤ 2147483647 ∧ -2147483647 ≤ n ∧ n ≤ 2147483647
  · exact (valid_in n d w h0.1 h0.2.1 h0.2.2.1 h0.2.2.2).mono fun _ _ ⟨he, hb⟩ => ⟨by rw [he, gcd_dec_no h h0.1 h0.2.1 h0.2.2.1 h0.2.2.2], hb⟩
  · exact valid_out n d w h0

/-! ### the specification's -/
set_option maxHeartbeats 400000 in
theorem rgcd_any (a b : Nat) (ha : a ≤ 9223372036854775807) (hb : b ≤ 9223372036854775807) (w : World) :
    Calls Tryd.prog 78 #[.int .i64 a, .int .i64 b] w fun e w' => e = .returned (.int .i64 (Nat.gcd a b)) ∧ w' = w := by
  go_enter Tryd.func78, Tryd.ntmps78
  go_wp2
  go_loop [0, 1] (fun x y => ∃ p q : Nat, p ≤ 9223372036854775807 ∧ q ≤ 9223372036854775807 ∧ Hid (Nat.gcd p q = Nat.gcd a b) ∧ x = .int .i64 p ∧ y = .int .i64 q) (fun _ y => (intOf y).toNat)
  case atStart => exact ⟨a, b, ha, hb, Lib.hid rfl, rfl, rfl⟩
  case round =>
    obtain ⟨p, q, hp, hq, hg, rfl, rfl⟩ := hrel
    by_cases h : q = 0
    · have h0 : ((q : Int) == 0) = true := by subst h; rfl
      subst h
      go_wp2
      go_ret
      exact ⟨ret_i64 (by rw [← hg.out, Nat.gcd_zero_right]), rfl⟩
    · have h0 : ((q : Int) == 0) = false := by rw [beq_eq_false_iff_ne]; omega
      have h1 : 1 ≤ (q : Int) := by omega
      go_wp2
      go_round
      case rel => exact ⟨q, p % q, hq, Nat.le_trans (Nat.mod_le _ _) hp, Lib.hid (by rw [gcd_step]; exact hg.out), rfl, rfl⟩
      case measure => simp [intOf]; have := Nat.mod_lt p (show 0 < q by omega); omega

set_option maxHeartbeats 400000 in
theorem rabs_any (n : Int) (h0 : -9223372036854775807 ≤ n) (h1 : n ≤ 9223372036854775807) (w : World) :
    Calls Tryd.prog 79 #[.int .i64 n] w fun e w' => e = .returned (.int .i64 n.natAbs) ∧ w' = w := by
  by_cases h : n < 0
  · go_enter Tryd.func79, Tryd.ntmps79
    go_wp2
    go_ret
    exact ⟨ret_i64 (by omega), rfl⟩
  · go_enter Tryd.func79, Tryd.ntmps79
    go_wp2
    go_ret
    exact ⟨ret_i64 (by omega), rfl⟩

set_option maxHeartbeats 400000 in
theorem rvalid_out (n d : Int) (w : World) (h : ¬ (1 ≤ d ∧ d ≤ 2147483647 ∧ -2147483647 ≤ n ∧ n ≤ 2147483647)) :
    Calls Tryd.prog 22 #[.agg #[.int .i64 n, .int .i64 d]] w fun e w' => e = .returned (.bool false) ∧ Below w.heap.size w w' := by
  have hd : (decide (d < 1) || decide (2147483647 < d) || decide (n < -2147483647) || decide (2147483647 < n)) = true := by simp; omega
  go_enter Tryd.func22, Tryd.ntmps22
  go_wp2
  all_goals
    go_ret
    exact ⟨rfl, (by repeat (first | with_reducible exact Below.refl _ _ | with_reducible assumption | refine below_drewN ?_ _ | refine Below.drew ?_ | refine Below.alloc ?_ (by first | (simp; done) | (simp; omega) | omega) _ | refine Below.setCell ?_ (by first | (simp; done) | (simp; omega) | omega) _ | refine Below.trans ?_ (Below.mono (by assumption) (by first | (simp; done) | (simp; omega) | omega))))⟩

set_option maxHeartbeats 400000 in
theorem rvalid_in (n d : Int) (w : World) (h1 : 1 ≤ d) (h2 : d ≤ 2147483647) (h3 : -2147483647 ≤ n) (h4 : n ≤ 2147483647) :
    Calls Tryd.prog 22 #[.agg #[.int .i64 n, .int .i64 d]] w fun e w' => e = .returned (.bool ((Nat.gcd n.natAbs d.natAbs : Int) == 1)) ∧ Below w.heap.size w w' := by
  obtain ⟨k, rfl⟩ : ∃ k : Nat, d = k := ⟨d.toNat, by omega⟩
  go_enter Tryd.func22, Tryd.ntmps22
  go_wp2_with fail
  go_quiet (first | (go_at_call 79; exact Calls.quiet_of_same (rabs_any _ (by omega) (by omega) _)) | (go_at_call 78; refine Calls.quiet_of_same (rgcd_any _ _ (by omega) (by omega) _)))
  go_wp2
  go_ret
  exact ⟨rfl, (by repeat (first | with_reducible exact Below.refl _ _ | with_reducible assumption | refine below_drewN ?_ _ | refine Below.drew ?_ | refine Below.alloc ?_ (by first | (simp; done) | (simp; omega) | omega) _ | refine Below.setCell ?_ (by first | (simp; done) | (simp; omega) | omega) _ | refine Below.trans ?_ (Below.mono (by assumption) (by first | (simp; done) | (simp; omega) | omega))))⟩

theorem rvalid_yes (n d : Int) (w : World) (h : Rt.vldP n d) :
    Calls Tryd.prog 22 #[.agg #[.int .i64 n, .int .i64 d]] w fun e w' => e = .returned (.bool true) ∧ Below w.heap.size w w' :=
  (rvalid_in n d w h.1 h.2.1 h.2.2.1 h.2.2.2.1).mono fun _ _ ⟨he, hb⟩ => ⟨by rw [he, gcd_dec h], hb⟩
theorem rvalid_not (n d : Int) (w : World) (h : ¬ Rt.vldP n d) :
    Calls Tryd.prog 22 #[.agg #[.int .i64 n, .int .i64 d]] w fun e w' => e = .returned (.bool false) ∧ Below w.heap.size w w' := by
  by_cases h0 : 1 ≤ d ∧ d ≤ 2147483647 ∧ -2147483647 ≤ n ∧ n ≤ 2147483647
  · exact (rvalid_in n d w h0.1 h0.2.1 h0.2.2.1 h0.2.2.2).mono fun _ _ ⟨he, hb⟩ => ⟨by rw [he, gcd_dec_no h h0.1 h0.2.1 h0.2.2.1 h0.2.2.2], hb⟩
  · exact rvalid_out n d w h0
end Go.Proofs.YtffabmojbelaaaaDoor
