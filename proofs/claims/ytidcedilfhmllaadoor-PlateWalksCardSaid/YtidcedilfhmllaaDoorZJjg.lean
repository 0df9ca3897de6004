/- Compose and Inverse, whatever is asked: what they answer. -/
import Derived.Test.YtidcedilfhmllaaDoorZ07
set_option linter.unusedSimpArgs false
set_option linter.unusedVariables false
namespace Go.Proofs.YtidcedilfhmllaaDoor
open Go.RowKit

/-- the answer of Compose, whatever is asked -/
theorem pComposeP_gen (a b : Int) (w : World) :
    Calls Tryd.prog 29 #[.int .i64 a, .int .i64 b] w fun e w' => (∃ x y : Int, e = .returned (.tuple #[.int .i64 x, .int .i64 y]) ∧ (y = 0 ∨ y = 1)) ∧ w' = w := by
  by_cases h : Pl.ix a 8 = true ∧ Pl.ix b 8 = true
  · have h1 := of_decide_eq_true h.1
    have h2 := of_decide_eq_true h.2
    obtain ⟨x, rfl⟩ : ∃ x : Nat, a = x := ⟨a.toNat, by omega⟩
    obtain ⟨y, rfl⟩ : ∃ y : Nat, b = y := ⟨b.toNat, by omega⟩
    exact (pComposeP_ok x y (by omega) (by omega) w).mono fun e w' ⟨he, hw⟩ => ⟨⟨_, _, he, Or.inl rfl⟩, hw⟩
  · exact (pComposeP_no a b h w).mono fun e w' ⟨he, hw⟩ => ⟨⟨_, _, he, Or.inr rfl⟩, hw⟩
theorem pInverseP_gen (a : Int) (w : World) :
    Calls Tryd.prog 30 #[.int .i64 a] w fun e w' => (∃ x y : Int, e = .returned (.tuple #[.int .i64 x, .int .i64 y]) ∧ (y = 0 ∨ y = 1)) ∧ w' = w := by
  cases h : Pl.ix a 8
  · exact (pInverseP_no a h w).mono fun e w' ⟨he, hw⟩ => ⟨⟨_, _, he, Or.inr rfl⟩, hw⟩
  · have h1 := of_decide_eq_true h
    obtain ⟨x, rfl⟩ : ∃ x : Nat, a = x := ⟨a.toNat, by omega⟩
    exact (pInverseP_ok x (by omega) w).mono fun e w' ⟨he, hw⟩ => ⟨⟨_, _, he, Or.inl rfl⟩, hw⟩
end Go.Proofs.YtidcedilfhmllaaDoor
