/- Contracts of the specification: SameTable, at two tables that are the same. -/
import Derived.Test.YtkcchangkhklcaaZYs
import Derived.Test.YtkcchangkhklcaaZ06
import Derived.Deep.RegionHeld3
set_option linter.unusedSimpArgs false
set_option linter.unusedVariables false
namespace Go.Proofs.Ytkcchangkhklcaa
open Go.RowKit

theorem sameTable_none (w : World) : Calls Try.prog 28 #[.slice none 0 0, .slice none 0 0] w fun e w' => e = .returned (.bool true) ∧ Below w.heap.size w w' := by
  go_enter Try.func28, Try.ntmps28
  go_wp2
  go_loopw [5] (fun i wr => i = .int .i64 0 ∧ wr = w) (fun _ _ => 0)
  case atStart => exact ⟨rfl, rfl⟩
  case round =>
    obtain ⟨rfl, rfl⟩ := hrel
    have hi5 : ¬ (0 : Int) < 0 := by omega
    go_wp2
    go_ret
    exact ⟨rfl, Below.refl _ _⟩

set_option maxRecDepth 100000 in
set_option maxHeartbeats 4000000 in
theorem sameTable_true (N ob S0 ob2 S2 : Nat) (hN : N ≤ 1000) (D : Nat → Nat → Int) (w : World) (h1 : Hid (TBL N ob S0 D w)) (h2 : Hid (TBL N ob2 S2 D w)) :
    Calls Try.prog 28 #[.slice (some ⟨ob, 0, none⟩) N N, .slice (some ⟨ob2, 0, none⟩) N N] w fun e w' => e = .returned (.bool true) ∧ Below w.heap.size w w' := by
  have g1 : ((N : Int) != (N : Int)) = false := by simp
  go_enter Try.func28, Try.ntmps28
  go_wp2
  go_loopw [5] (fun i wr => ∃ k : Nat, k ≤ N ∧ i = .int .i64 k ∧ Hid (TBL N ob S0 D wr) ∧ Hid (TBL N ob2 S2 D wr) ∧ Hid (Below w.heap.size w wr)) (fun i _ => N - (RowKit.intOf i).toNat)
  case atStart => exact ⟨0, Nat.zero_le _, rfl, h1, h2, Lib.hid (Below.refl _ _)⟩
  case round =>
    clear h1 h2
    obtain ⟨k, hk, rfl, h1, h2, hB⟩ := hrel
    by_cases hlt : k < N
    · have hi5 : (k : Int) < (N : Int) := by omega
      have hi6 : (0 : Int) ≤ (k : Int) := by omega
      have r1 := h1.out.row hlt
      have r2 := h2.out.row hlt
      obtain ⟨l, hl⟩ : ∃ l : List Int, l = (List.range N).map fun j => D k j := ⟨_, rfl⟩
      have hlen : l.length = N := by rw [hl]; simp
      have hget : ∀ i, i < N → Value.int .i64 (D k i) = .int .i64 (l.getD i 0) := fun i hi => by
        rw [hl, List.getD, List.getElem?_map, List.getElem?_range hi]; rfl
      have HS := sameInts_any (some ⟨S0 + k, 0, none⟩) (some ⟨S2 + k, 0, none⟩) N N l l (by omega) wr.drew (ints_of_row (h1.out.r k hlt).drew hget hlen) (ints_of_row (h2.out.r k hlt).drew hget hlen)
      rw [hlen, decide_eq_true rfl] at HS
      replace HS := Lib.hid HS
      have T1 := Lib.hid fun (W : World) (hb : Below wr.drew.heap.size wr.drew W) => h1.out.below (Below.trans (Below.refl wr.heap.size wr).drew hb)
      have T2 := Lib.hid fun (W : World) (hb : Below wr.drew.heap.size wr.drew W) => h2.out.below (Below.trans (Below.refl wr.heap.size wr).drew hb)
      have T3 := Lib.hid fun (W : World) (hb : Below wr.drew.heap.size wr.drew W) => hB.out.trans ((Below.trans (Below.refl wr.heap.size wr).drew hb).mono hB.out.size)
      have S0' : wr.drew.cell? ⟨ob, k, none⟩ = some (.slice (some ⟨S0 + k, 0, none⟩) N N) ∧ wr.drew.cell? ⟨ob2, k, none⟩ = some (.slice (some ⟨S2 + k, 0, none⟩) N N) := ⟨r1, r2⟩
      clear r1 r2 hl hlen hget h1 h2 hB
      go_upto_region 6 with fail
      go_region_held3 (fun w' => w'.cell? ⟨ob, k, none⟩ = some (.slice (some ⟨S0 + k, 0, none⟩) N N) ∧ w'.cell? ⟨ob2, k, none⟩ = some (.slice (some ⟨S2 + k, 0, none⟩) N N))
        (first | with_reducible exact S0' | with_reducible exact keepY (by assumption) hbp)
        (first
        | (go_at_call 16
           with_reducible refine HS.out.mono ?_
           rintro e wp1 ⟨he, hbp⟩
           subst he
           skip))
      have h1 := Lib.hid (T1.out _ hbp)
      have h2 := Lib.hid (T2.out _ hbp)
      have hB := Lib.hid (T3.out _ hbp)
      clear hbp T1 T2 T3
      go_wp2
      go_roundw
      case rel => exact ⟨k + 1, by omega, by go_num, h1, h2, hB⟩
      case measure => show N - ((k : Int) + 1).toNat < N - (k : Int).toNat; omega
    · obtain rfl : k = N := by omega
      have hi5 : ¬ (k : Int) < (k : Int) := by omega
      go_wp2
      go_ret
      exact ⟨rfl, hB.out⟩
end Go.Proofs.Ytkcchangkhklcaa
