/- Contracts of the laws' small functions: is, as, rat, same, wrong. -/
import Derived.Test.YtffabmojbelaaaaDoorH
import Derived.Deep.QuietTactic
namespace Go.Proofs.YtffabmojbelaaaaDoor
open Go.RowKit

set_option maxHeartbeats 400000 in
theorem rat_any (n d : Int) (w : World) :
    Calls Tryd.prog 76 #[.int .i64 n, .int .i64 d] w fun e w' => e = .returned (.agg #[.int .i64 n, .int .i64 d]) ∧ Below w.heap.size w w' := by
  go_enter Tryd.func76, Tryd.ntmps76
  go_wp2
  refine bodyPost_ret (v := .agg #[.int .i64 n, .int .i64 d]) (by simp [results, Tryd.results76, go_sem]) rfl ?_
  exact ⟨rfl, (by repeat (first | with_reducible exact Below.refl _ _ | with_reducible assumption | refine below_drewN ?_ _ | refine Below.drew ?_ | refine Below.alloc ?_ (by first | (simp; done) | (simp; omega) | omega) _ | refine Below.setCell ?_ (by first | (simp; done) | (simp; omega) | omega) _ | refine Below.trans ?_ (Below.mono (by assumption) (by first | (simp; done) | (simp; omega) | omega))))⟩

set_option maxHeartbeats 400000 in
theorem is_yes (n d c : Int) (w : World) :
    Calls Tryd.prog 19 #[.agg #[.int .i64 n, .int .i64 d], .int .i64 c, .agg #[.int .i64 n, .int .i64 d, .int .i64 c]] w fun e w' => e = .returned (.bool true) ∧ Below w.heap.size w w' := by
  go_enter Tryd.func19, Tryd.ntmps19
  go_wp2
  go_ret
  exact ⟨rfl, (by repeat (first | with_reducible exact Below.refl _ _ | with_reducible assumption | refine below_drewN ?_ _ | refine Below.drew ?_ | refine Below.alloc ?_ (by first | (simp; done) | (simp; omega) | omega) _ | refine Below.setCell ?_ (by first | (simp; done) | (simp; omega) | omega) _ | refine Below.trans ?_ (Below.mono (by assumption) (by first | (simp; done) | (simp; omega) | omega))))⟩

/-- a slice of integers that reads as a list -/
def Reads (w : World) (v : Value) (l : List Int) : Prop :=
  ∃ a cap, v = .slice a l.length cap ∧ l.length ≤ maxLen ∧ ∀ i, i < l.length → ∃ x, a = some x ∧ w.cell? (x.add i) = some (.int .i64 (l.getD i 0))

theorem Reads.below {w w' : World} {v : Value} {l : List Int} (h : Reads w v l) (hb : Below w.heap.size w w') : Reads w' v l := by
  obtain ⟨a, cap, h1, h2, h3⟩ := h
  refine ⟨a, cap, h1, h2, fun i hi => ?_⟩
  obtain ⟨x, hx, hc⟩ := h3 i hi
  refine ⟨x, hx, ?_⟩
  rw [hb.cell (block_lt_of_cell hc)]; exact hc

set_option maxHeartbeats 400000 in
theorem same_core (a1 a2 : Option Addr) (n c1 c2 : Nat) (f : Nat → Int) (hn : n ≤ maxLen) (w : World) (h1 : Hid (∀ i, i < n → ∃ x, a1 = some x ∧ w.cell? (x.add i) = some (.int .i64 (f i)))) (h2 : Hid (∀ i, i < n → ∃ x, a2 = some x ∧ w.cell? (x.add i) = some (.int .i64 (f i)))) :
    Calls Tryd.prog 47 #[.slice a1 n c1, .slice a2 n c2] w fun e w' => e = .returned (.bool true) ∧ ∃ m, w' = w.drewN m := by
  unfold maxLen at hn
  go_enter Tryd.func47, Tryd.ntmps47
  go_wp2
  go_loopw [5] (fun i wr => ∃ k : Nat, k ≤ n ∧ i = .int .i64 k ∧ Hid (∃ m, wr = w.drewN m)) (fun i _ => n - (intOf i).toNat)
  case atStart => exact ⟨0, Nat.zero_le _, rfl, Lib.hid ⟨0, rfl⟩⟩
  case round =>
    obtain ⟨k, hk, rfl, hw⟩ := hrel
    by_cases hlt : k < n
    · obtain ⟨x1, rfl, g1⟩ := h1.out k hlt
      obtain ⟨x2, rfl, g2⟩ := h2.out k hlt
      obtain ⟨m, rfl⟩ := hw.out
      go_wp2
      go_region
      go_wp2
      go_roundw
      case rel => exact ⟨k + 1, by omega, by go_num, Lib.hid ⟨m + 1, rfl⟩⟩
      case measure => simp [intOf]; omega
    · go_wp2
      go_ret
      exact ⟨rfl, hw.out⟩

theorem same_yes (v1 v2 : Value) (l : List Int) (w : World) (h1 : Reads w v1 l) (h2 : Reads w v2 l) :
    Calls Tryd.prog 47 #[v1, v2] w fun e w' => e = .returned (.bool true) ∧ ∃ m, w' = w.drewN m := by
  obtain ⟨a1, c1, rfl, hl, r1⟩ := h1
  obtain ⟨a2, c2, rfl, _, r2⟩ := h2
  exact same_core a1 a2 l.length c1 c2 (fun i => l.getD i 0) hl w (Lib.hid r1) (Lib.hid r2)
end Go.Proofs.YtffabmojbelaaaaDoor
