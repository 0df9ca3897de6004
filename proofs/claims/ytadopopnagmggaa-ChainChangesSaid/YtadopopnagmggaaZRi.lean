/- Contracts of the specification: Indices. -/
import Derived.Test.YtadopopnagmggaaZ06
set_option linter.unusedSimpArgs false
set_option linter.unusedVariables false
namespace Go.Proofs.Ytadopopnagmggaa
open Go.RowKit

set_option maxRecDepth 100000 in
set_option maxHeartbeats 1000000 in
theorem indices_any (n : Int) (a : Option Addr) (m cap : Nat) (b : Option Addr) (q cap2 : Nat) (l : List Int) (hq : Hid (l.length = q)) (hq2 : q ≤ 1000000) (R : Bool) (hR : Hid (l.all (fun i => Ch.isIx i m) = R)) (w : World) (hl : Hid (IntsAt w b l)) :
    Calls Try.prog 20 #[.agg #[.int .i64 n, .slice a m cap], .slice b q cap2] w fun e w' => e = .returned (.bool R) ∧ Below w.heap.size w w' := by
  go_enter Try.func20, Try.ntmps20
  go_wp2
  go_loopw [5] (fun i wr => ∃ k : Nat, k ≤ q ∧ i = .int .i64 k ∧ wr.cell? ⟨w.heap.size, 1, none⟩ = some (.slice a m cap) ∧ Below w.heap.size w wr ∧ w.heap.size < wr.heap.size ∧ Hid (l.all (fun i => Ch.isIx i m) = (l.drop k).all (fun i => Ch.isIx i m))) (fun i _ => q - (RowKit.intOf i).toNat)
  case atStart => exact ⟨0, Nat.zero_le _, rfl, by simp [go_sem], (by repeat (first | with_reducible exact Below.refl _ _ | with_reducible assumption | refine below_drewN ?_ _ | refine Below.drew ?_ | refine Below.alloc ?_ (by first | (simp; done) | (simp; omega) | omega) _ | refine Below.setCell ?_ (by first | (simp; done) | (simp; omega) | omega) _ | refine Below.trans ?_ (Below.mono (by assumption) (by first | (simp; done) | (simp; omega) | omega)))), by simp, Lib.hid rfl⟩
  case round =>
    obtain ⟨k, hk, rfl, hn, hb, hsz, hall⟩ := hrel
    by_cases hlt : k < q
    · obtain ⟨x, rfl, hcx⟩ := (hl.out k (by have := hq.out; omega))
      have hc0 := (hb.cell (block_lt_of_cell hcx)).trans hcx
      have hst := Ch.all_at (p := fun i => Ch.isIx i m) (l := l) (k := k) (by have := hq.out; omega)
      obtain ⟨z, hz⟩ : ∃ z, l.getD k 0 = z := ⟨_, rfl⟩
      rw [hz] at hc0 hst
      clear hcx hz
      have hi5 : (k : Int) < (q : Int) := by omega
      by_cases hz0 : z < 0
      · have hR2 : Hid (R = false) := Lib.hid (by rw [← hR.out, hall.out, hst, show Ch.isIx z m = false by unfold Ch.isIx; rw [decide_eq_false (show ¬ 0 ≤ z by omega)]; rfl]; rfl)
        clear hst hall
        go_wp2_with fail
        have hu : undef = Value.tuple #[] := rfl
        first | (go_region_with (fail)) | fail
        all_goals go_wp2
        all_goals go_ret
        all_goals exact ⟨by rw [hR2.out]; rfl, (by repeat (first | with_reducible exact Below.refl _ _ | with_reducible assumption | refine below_drewN ?_ _ | refine Below.drew ?_ | refine Below.alloc ?_ (by first | (simp; done) | (simp; omega) | omega) _ | refine Below.setCell ?_ (by first | (simp; done) | (simp; omega) | omega) _ | refine Below.trans ?_ (Below.mono (by assumption) (by first | (simp; done) | (simp; omega) | omega))))⟩
      · have hz1 : 0 ≤ z := by omega
        have hz2 : decide (z < 0) = false := decide_eq_false hz0
        by_cases hzm : (m : Int) ≤ z
        · have hR2 : Hid (R = false) := Lib.hid (by rw [← hR.out, hall.out, hst, show Ch.isIx z m = false by unfold Ch.isIx; rw [decide_eq_false (show ¬ z < (m : Int) by omega), Bool.and_false]]; rfl)
          clear hst hall
          go_wp2_with fail
          have S0 : wr.drew.cell? (x.add k) = some (.int .i64 z) ∧ wr.drew.cell? ⟨w.heap.size, 1, none⟩ = some (.slice a m cap) := ⟨hc0, hn⟩
          go_region_held3 (fun w' => w'.cell? (x.add k) = some (.int .i64 z) ∧ w'.cell? ⟨w.heap.size, 1, none⟩ = some (.slice a m cap)) (first | with_reducible exact S0 | go_keep) (fail)
          go_wp2
          go_ret
          exact ⟨by rw [hR2.out]; rfl, (by repeat (first | with_reducible exact Below.refl _ _ | with_reducible assumption | refine below_drewN ?_ _ | refine Below.drew ?_ | refine Below.alloc ?_ (by first | (simp; done) | (simp; omega) | omega) _ | refine Below.setCell ?_ (by first | (simp; done) | (simp; omega) | omega) _ | refine Below.trans ?_ (Below.mono (by assumption) (by first | (simp; done) | (simp; omega) | omega))))⟩
        · replace hst := Lib.hid hst
          have hix : Hid (Ch.isIx z m = true) := Lib.hid (by unfold Ch.isIx; simp; omega)
          go_wp2_with fail
          have S0 : wr.drew.cell? (x.add k) = some (.int .i64 z) ∧ wr.drew.cell? ⟨w.heap.size, 1, none⟩ = some (.slice a m cap) := ⟨hc0, hn⟩
          go_region_held3 (fun w' => w'.cell? (x.add k) = some (.int .i64 z) ∧ w'.cell? ⟨w.heap.size, 1, none⟩ = some (.slice a m cap)) (first | with_reducible exact S0 | go_keep) (fail)
          go_wp2
          go_roundw
          case rel => exact ⟨k + 1, by omega, by go_num, hn, (by repeat (first | with_reducible exact Below.refl _ _ | with_reducible assumption | refine below_drewN ?_ _ | refine Below.drew ?_ | refine Below.alloc ?_ (by first | (simp; done) | (simp; omega) | omega) _ | refine Below.setCell ?_ (by first | (simp; done) | (simp; omega) | omega) _ | refine Below.trans ?_ (Below.mono (by assumption) (by first | (simp; done) | (simp; omega) | omega)))), hsz, Lib.hid (by rw [hall.out, hst.out, hix.out]; simp)⟩
          case measure => first | (simp [RowKit.intOf]; done) | (simp [RowKit.intOf]; omega) | omega
    · obtain rfl : k = q := by omega
      have hi5 : ¬ (k : Int) < (k : Int) := by omega
      have hR2 : Hid (R = true) := Lib.hid (by rw [← hR.out, hall.out, List.drop_eq_nil_of_le (by have := hq.out; omega)]; rfl)
      clear hall
      go_wp2
      go_ret
      exact ⟨by rw [hR2.out]; rfl, (by repeat (first | with_reducible exact Below.refl _ _ | with_reducible assumption | refine below_drewN ?_ _ | refine Below.drew ?_ | refine Below.alloc ?_ (by first | (simp; done) | (simp; omega) | omega) _ | refine Below.setCell ?_ (by first | (simp; done) | (simp; omega) | omega) _ | refine Below.trans ?_ (Below.mono (by assumption) (by first | (simp; done) | (simp; omega) | omega))))⟩
end Go.Proofs.Ytadopopnagmggaa
