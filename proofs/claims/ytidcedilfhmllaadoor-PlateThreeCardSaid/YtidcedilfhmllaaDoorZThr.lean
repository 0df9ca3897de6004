/- Layer 3, plain: three plates that are worked in turn. -/
import Derived.Test.YtidcedilfhmllaaDoorZ03
set_option linter.unusedSimpArgs false
set_option linter.unusedVariables false
namespace Pl

def shop3 (a b last : Nat) : List Wk := [⟨0, 1, a⟩, ⟨1, 2, b⟩, ⟨2, 0, cmp (inv (cmp a b)) last⟩]
def shop4 (a b last : Nat) : List Wk := shop3 a b last ++ [⟨0, 1, cmp a 1⟩]
def dih : List (Nat × Bool) := [(0, false), (1, false), (2, false), (3, false), (4, true), (5, true), (6, true), (7, true)]
theorem shop3_all : (List.range 8).all (fun a => (List.range 8).all fun b => [0, 4, 5, 6, 7].all fun r => (List.range 3).all fun p => decide (signs (shop3 a b r) p ∈ if r = 0 then [[(0, false), (0, true)]] else [[(0, false), (4, true)], [(0, false), (5, true)], [(0, false), (6, true)], [(0, false), (7, true)]])) = true := by decide +kernel
end Pl
