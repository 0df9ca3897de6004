/- What the claims of layer 3 share, part 28: several texts one behind the other. -/
import Derived.Test.YtidcedilfhmllaaDoorZ26
import Derived.Test.YtidcedilfhmllaaDoorZ27
import Derived.Test.YtidcedilfhmllaaDoorZ10
set_option linter.unusedSimpArgs false
set_option linter.unusedVariables false
/- Layer 3, plain: what the examples answer. -/
namespace Pl
set_option maxRecDepth 100000
/-- the shop m -/
def exL : List Wk := [⟨0, 1, 0⟩, ⟨1, 2, 0⟩, ⟨2, 0, 4⟩]
/-- .. with one more working -/
def exM : List Wk := exL ++ [⟨0, 1, 1⟩]
theorem exL_chk : chk 2 3 exL = 0 := by decide +kernel
theorem exM_chk : chk 2 3 exM = 0 := by decide +kernel
theorem exL_cpl : cpl ((2 : Nat) : Int) 3 exL 0 = 0 := by decide +kernel
theorem exM_cpl : cpl ((2 : Nat) : Int) 3 exM 0 = 0 := by decide +kernel
theorem exL_signs : signs exL 0 = [(0, false), (4, true)] := by decide +kernel
theorem exL_cls : clsL 2 [(0, false), (4, true)] = ([0, 0, 2, 2], [1, -1, 1, -1]) := by decide +kernel
theorem exL_frd : frd 2 (signs exL 0) = 2 := by rw [exL_signs]; decide +kernel
theorem exM_frd : (frd 2 (signs exM 0) == 0) = true := by decide +kernel
theorem exL_evs : (evs (2 * 2) (lsF (clsL 2 (signs exL 0)).1) (wsF (clsL 2 (signs exL 0)).2)).length = 2 := by rw [exL_signs, exL_cls]; decide +kernel
def exP : Nat → Nat → Int := spr 2 (shp (2 * 2) (lsF (clsL 2 (signs exL 0)).1) (wsF (clsL 2 (signs exL 0)).2) [5, 7]) (fun _ _ => 0) ((ways exL 0).map Prod.fst)
theorem exL_shape : exP 1 0 = -5 ∧ exP 1 1 = 5 ∧ exP 1 2 = -7 ∧ exP 1 3 = 7 := by decide +kernel
def exW : List (List Int) := prvW 2 exM 0
theorem exM_ckp : ckp 2 exM 0 exW = 0 := by decide +kernel
theorem exL_ckp : ckp 2 exL 0 exW ≠ 0 := by decide +kernel
theorem exW_len : exW.length ≤ 40 := by decide +kernel
theorem exW_rng : ∀ l ∈ exW, ∀ g ∈ l, -9223372036854775808 ≤ g ∧ g ≤ 9223372036854775807 := by decide +kernel
theorem exL_prt : prtP 2 3 exL = [115, 104, 111, 112, 32, 50, 32, 51, 10, 119, 111, 114, 107, 32, 48, 32, 49, 32, 48, 10, 119, 111, 114, 107, 32, 49, 32, 50, 32, 48, 10, 119, 111, 114, 107, 32, 50, 32, 48, 32, 52, 10] := by decide +kernel
end Pl
