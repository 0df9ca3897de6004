/- Contracts of the specification: Has. -/
import Derived.Test.YtkcchangkhklcaaZFi
import Derived.BigQuiet
set_option linter.unusedSimpArgs false
set_option linter.unusedVariables false
namespace Go.Proofs.Ytkcchangkhklcaa
open Go.RowKit

set_option maxRecDepth 100000 in
set_option maxHeartbeats 2000000 in
theorem has_any (b : Option Addr) (q cap : Nat) (l : List Int) (z : Int) (hq : Hid (l.length = q)) (hq9 : q ≤ 1000) (R : Bool) (hR : Hid (decide (z ∈ l) = R)) (w : World) (hl : Hid (IntsAt w b l)) :
    Calls Try.prog 40 #[.slice b q cap, .int .i64 z] w fun e w' => e = .returned (.bool R) ∧ w' = w := by
  go_enter Try.func40, Try.ntmps40
  go_wp2
  go_loopw [5] (fun i wr => ∃ k : Nat, k ≤ q ∧ i = .int .i64 k ∧ w = wr ∧ Hid (z ∉ l.take k)) (fun i _ => q - (RowKit.intOf i).toNat)
  case atStart => exact ⟨0, Nat.zero_le _, rfl, rfl, Lib.hid (by simp)⟩
  case round =>
    obtain ⟨k, hk, rfl, rfl, hno⟩ := hrel
    by_cases hlt : k < q
    · have hkl : k < l.length := by have := hq.out; omega
      obtain ⟨x, rfl, hx⟩ := hl.out k hkl
      have hi5 : (k : Int) < (q : Int) := by omega
      have hi6 : (0 : Int) ≤ (k : Int) := by omega
      have hnx : l.take (k + 1) = l.take k ++ [l.getD k 0] := by
        rw [List.take_succ_eq_append_getElem hkl]
        congr 2
        rw [List.getD, List.getElem?_eq_getElem hkl]; rfl
      have hmem : l.getD k 0 ∈ l := by rw [List.getD, List.getElem?_eq_getElem hkl]; exact List.getElem_mem hkl
      obtain ⟨v, hv⟩ : ∃ v, l.getD k 0 = v := ⟨_, rfl⟩
      rw [hv] at hx hnx hmem
      by_cases e : v = z
      · obtain rfl : true = R := by rw [← hR.out]; rw [decide_eq_true (e ▸ hmem)]
        have g : (v == z) = true := by rw [beq_iff_eq]; exact e
        subst e
        clear hno hnx hmem hv hR
        go_wp2
        go_ret
        exact ⟨rfl, rfl⟩
      · have g : (v == z) = false := by rw [beq_eq_false_iff_ne]; exact e
        have hno2 := Lib.hid (show z ∉ l.take (k + 1) by rw [hnx]; simp only [List.mem_append, List.mem_singleton, not_or]; exact ⟨hno.out, fun h => e h.symm⟩)
        clear hno hnx hmem hv
        go_wp2
        go_roundw
        case rel => exact ⟨k + 1, by omega, by go_num, by first | rfl | trivial, hno2⟩
        case measure => show q - ((k : Int) + 1).toNat < q - (k : Int).toNat; omega
    · obtain rfl : k = q := by omega
      have hi5 : ¬ (k : Int) < (k : Int) := by omega
      obtain rfl : false = R := by
        have h := hno.out
        rw [List.take_of_length_le (by have := hq.out; omega)] at h
        rw [← hR.out, decide_eq_false h]
      clear hno hR
      go_wp2
      go_ret
      exact ⟨rfl, rfl⟩

end Go.Proofs.Ytkcchangkhklcaa
