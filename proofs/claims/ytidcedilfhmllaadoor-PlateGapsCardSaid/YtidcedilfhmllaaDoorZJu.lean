/- Contracts of the specification of layer 3: In. -/
import Derived.Test.YtidcedilfhmllaaDoorZ04
import Derived.Test.YtidcedilfhmllaaDoorZ03
set_option linter.unusedSimpArgs false
set_option linter.unusedVariables false
namespace Go.Proofs.YtidcedilfhmllaaDoor
open Go.RowKit

set_option maxHeartbeats 400000 in
theorem rIn_any (x a b : Int) (w : World) :
    Calls Tryd.prog 11 #[.int .i64 x, .int .i64 a, .int .i64 b] w fun e w' => e = .returned (.bool (decide (a ≤ x ∧ x ≤ b))) ∧ w' = w := by
  by_cases h1 : a ≤ x
  · by_cases h2 : x ≤ b
    · go_enter Tryd.func11, Tryd.ntmps11
      go_wp2
      go_ret
      exact ⟨ret_bool (by simp [h1, h2]), rfl⟩
    · go_enter Tryd.func11, Tryd.ntmps11
      go_wp2
      go_ret
      exact ⟨ret_bool (by simp [h2]), rfl⟩
  · go_enter Tryd.func11, Tryd.ntmps11
    go_wp2
    go_ret
    exact ⟨ret_bool (by simp; omega), rfl⟩

set_option maxRecDepth 100000 in
set_option maxHeartbeats 2000000 in
/-- Turned -/
theorem pTurned_any (s t x : Nat) (h1 : 1 ≤ s) (h6 : s ≤ 6) (ht : t < 8) (hx : x < s * s) (w : World) :
    Calls Tryd.prog 47 #[.int .i64 (s : Int), .int .i64 (t : Int), .int .i64 (x : Int)] w fun e w' => e = .returned (.int .i64 (Pl.tkR s t x : Nat)) ∧ w' = w := by
  have hr0 : x / s < s := Nat.div_lt_of_lt_mul hx
  have hm0 : x % s < s := Nat.mod_lt _ h1
  have hdv : ((x / s : Nat) : Int) = (x : Int) / (s : Int) := Int.natCast_ediv x s
  have hmv : ((x % s : Nat) : Int) = (x : Int) % (s : Int) := Int.natCast_emod x s
  have hkv : ((t % 4 : Nat) : Int) = (t : Int) % 4 := Int.natCast_emod t 4
  have q0 : (0 : Int) ≤ (x : Int) / (s : Int) := by rw [← hdv]; exact Int.natCast_nonneg _
  have q1 : (x : Int) / (s : Int) ≤ 6 := by rw [← hdv]; exact Int.ofNat_le.2 (show x / s ≤ 6 by omega)
  have hw64 : wrap64 ((x : Int) / (s : Int)) = (x : Int) / (s : Int) := IntWalk.wrap64_in _ (by omega)
  have s0 : (0 : Int) < (s : Int) := by omega
  have x0 : (0 : Int) ≤ (x : Int) := by omega
  obtain ⟨R, hR⟩ : ∃ R, Pl.spin (t % 4) (decide (4 ≤ t)) (x / s) (if 4 ≤ t then s - 1 - x % s else x % s) (s - 1) = R := ⟨_, rfl⟩
  have hT : Pl.tkR s t x = R.1 * s + R.2 := by
    unfold Pl.tkR
    rw [hR]
  rw [hT]
  clear hT
  by_cases h4 : 4 ≤ t
  · rw [if_pos h4, decide_eq_true h4] at hR
    have hc0 : s - 1 - x % s < s := by omega
    have hcv : ((s - 1 - x % s : Nat) : Int) = wrap64 ((s : Int) - 1 - (x : Int) % (s : Int)) := by
      rw [← hmv, IntWalk.wrap64_in _ (by omega)]
      omega
    have i4 : (4 : Int) ≤ (t : Int) := by omega
    have i4' : ¬ (t : Int) < 4 := by omega
    go_enter Tryd.func47, Tryd.ntmps47
    go_wp2
    go_loopw [7, 8, 9] (fun a b c wr => ∃ r cc k : Nat, a = .int .i64 (r : Int) ∧ b = .int .i64 (cc : Int) ∧ c = .int .i64 (k : Int) ∧ r < s ∧ cc < s ∧ k ≤ 3 ∧ wr = w ∧ Hid (Pl.spin k true r cc (s - 1) = R)) (fun _ _ c _ => (RowKit.intOf c).toNat)
    case atStart => exact ⟨x / s, s - 1 - x % s, t % 4, by first | (rw [hdv]; done) | (rw [hdv, hw64]; done), by first | (rw [hcv]; done) | (rw [show ((s - 1 - x % s : Nat) : Int) = (s : Int) - 1 - (x : Int) % (s : Int) by rw [← hmv]; omega]; done), by rw [hkv], hr0, hc0, by omega, rfl, Lib.hid hR⟩
    case round =>
      obtain ⟨r, cc, k, rfl, rfl, rfl, hr, hc, hk, rfl, hsp⟩ := hrel
      by_cases hk0 : k = 0
      · subst hk0
        have hRv : Hid (R = (r, cc)) := Lib.hid hsp.out.symm
        have hrs : r * s ≤ 36 := Nat.le_trans (Nat.mul_le_mul (show r ≤ 6 by omega) h6) (by decide)
        have hrs2 : (r : Int) * (s : Int) ≤ 36 := by rw [← Int.natCast_mul]; omega
        have hrs3 : (0 : Int) ≤ (r : Int) * (s : Int) := by rw [← Int.natCast_mul]; omega
        have i0 : ¬ (0 : Int) < ((0 : Nat) : Int) := by omega
        go_wp2
        go_ret
        refine ⟨?_, rfl⟩
        refine ret_i64 ?_
        rw [hRv.out]
      · obtain ⟨k', rfl⟩ : ∃ k', k = k' + 1 := ⟨k - 1, by omega⟩
        have hsp2 : Hid (Pl.spin k' true (s - 1 - cc) (r) (s - 1) = R) := Lib.hid hsp.out
        have i0 : (0 : Int) < ((k' + 1 : Nat) : Int) := by omega
        have er : ((s - 1 - r : Nat) : Int) = (s : Int) - 1 - (r : Int) := by omega
        have ec : ((s - 1 - cc : Nat) : Int) = (s : Int) - 1 - (cc : Int) := by omega
        go_wp2
        go_roundw
        case rel => exact ⟨s - 1 - cc, r, k', by first | rfl | (rw [ec]; done) | (rw [ec]; go_num), by first | rfl | (rw [er]; done) | (rw [er]; go_num), by go_num, by omega, by omega, by omega, by first | rfl | trivial, hsp2⟩
        case measure => first | (simp [RowKit.intOf]; done) | (simp [RowKit.intOf]; omega) | omega
  · rw [if_neg h4, decide_eq_false h4] at hR
    have hc0 := hm0
    have hcv := hmv
    have i4 : ¬ (4 : Int) ≤ (t : Int) := by omega
    have i4' : (t : Int) < 4 := by omega
    go_enter Tryd.func47, Tryd.ntmps47
    go_wp2
    go_loopw [7, 8, 9] (fun a b c wr => ∃ r cc k : Nat, a = .int .i64 (r : Int) ∧ b = .int .i64 (cc : Int) ∧ c = .int .i64 (k : Int) ∧ r < s ∧ cc < s ∧ k ≤ 3 ∧ wr = w ∧ Hid (Pl.spin k false r cc (s - 1) = R)) (fun _ _ c _ => (RowKit.intOf c).toNat)
    case atStart => exact ⟨x / s, x % s, t % 4, by first | (rw [hdv]; done) | (rw [hdv, hw64]; done), by rw [hcv], by rw [hkv], hr0, hc0, by omega, rfl, Lib.hid hR⟩
    case round =>
      obtain ⟨r, cc, k, rfl, rfl, rfl, hr, hc, hk, rfl, hsp⟩ := hrel
      by_cases hk0 : k = 0
      · subst hk0
        have hRv : Hid (R = (r, cc)) := Lib.hid hsp.out.symm
        have hrs : r * s ≤ 36 := Nat.le_trans (Nat.mul_le_mul (show r ≤ 6 by omega) h6) (by decide)
        have hrs2 : (r : Int) * (s : Int) ≤ 36 := by rw [← Int.natCast_mul]; omega
        have hrs3 : (0 : Int) ≤ (r : Int) * (s : Int) := by rw [← Int.natCast_mul]; omega
        have i0 : ¬ (0 : Int) < ((0 : Nat) : Int) := by omega
        go_wp2
        go_ret
        refine ⟨?_, rfl⟩
        refine ret_i64 ?_
        rw [hRv.out]
      · obtain ⟨k', rfl⟩ : ∃ k', k = k' + 1 := ⟨k - 1, by omega⟩
        have hsp2 : Hid (Pl.spin k' false (cc) (s - 1 - r) (s - 1) = R) := Lib.hid hsp.out
        have i0 : (0 : Int) < ((k' + 1 : Nat) : Int) := by omega
        have er : ((s - 1 - r : Nat) : Int) = (s : Int) - 1 - (r : Int) := by omega
        have ec : ((s - 1 - cc : Nat) : Int) = (s : Int) - 1 - (cc : Int) := by omega
        go_wp2
        go_roundw
        case rel => exact ⟨cc, s - 1 - r, k', by first | rfl | (rw [ec]; done) | (rw [ec]; go_num), by first | rfl | (rw [er]; done) | (rw [er]; go_num), by go_num, by omega, by omega, by omega, by first | rfl | trivial, hsp2⟩
        case measure => first | (simp [RowKit.intOf]; done) | (simp [RowKit.intOf]; omega) | omega
end Go.Proofs.YtidcedilfhmllaaDoor
