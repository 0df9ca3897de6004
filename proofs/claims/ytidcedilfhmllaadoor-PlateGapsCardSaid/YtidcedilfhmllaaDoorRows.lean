/-
  NARROWER THAN 'FOR EVERY INPUT', by the rows' own cells (each row's printed sentence says how): PlateGaps: laid · PlateClasses: laid · PlateShapes: laid · PlateHelps: laid · PlateThree: laid · PlateWalks: laid.
  DERIVED. THE GIVEN ROWS OF THIS SEAT. 6 by the template 'for every input the law returns true; each argument reads behind the call as it read before'; 0 by the template 'total and deterministic' (their statements: YtidcedilfhmllaaDoorTotals.lean).
  GIVEN WITH THE SEED: the statements are not yours to turn. If you find one false, say at which input.
  Laid BY PROGRAM, IN A SANDBOX (cutbox-rows.mjs): the forced cells as the released guide's own fill.sh prints them over the translation e10fc39b359df17b… (all of the seat's roots in one cut). By AI agents, Wed Nov 11 2026. No macro, syntax, notation, axiom, sorry.
-/
import Derived.Test.YtidcedilfhmllaaDoorChecked
import GoSem.Claim
import GoSem.ClaimJoined
import GoSem.ClaimMapViews
import Derived.JoinedTies
import Derived.KernelRfl
namespace Go.Proofs.YtidcedilfhmllaaDoor
/- THE CELL 'sum', in the pinned program and in every row, IS THE sha256 OF THE DUMP (.gsa) THAT YtidcedilfhmllaaDoorProg.lean LOADS. Nothing in Lean hashes anything: it is a label: what it is worth is what the hold of that sum in a sandbox is worth. -/
noncomputable def Tryd.pinned : Pinned := { name := "ytidcedilfhmllaadoor", sum := "e10fc39b359df17b1271001c74609d02ea4bf0f239b436e1341c4de3968b4a0e", checked := Tryd.checked }
namespace Rows
def none {H : Type} : Left H := { results := [], args := [] }

/- WHAT THE LISTED PACKAGE-LEVEL VARIABLES READ AS WHEN THE CALL BEGINS. Each datum BY PROGRAM (the guide's laid-datum.mjs) off the statement by which the dump's own 'gosem.cut.vars' lays the variable. In a bare row this is a premise. The card (YtidcedilfhmllaaDoorCards.lean) ties it to the program's text. -/
def laid_math_bits_deBruijn32tab {H : Type} : DataW H := .agg [.lit (.int .u8 0), .lit (.int .u8 1), .lit (.int .u8 28), .lit (.int .u8 2), .lit (.int .u8 29), .lit (.int .u8 14), .lit (.int .u8 24), .lit (.int .u8 3), .lit (.int .u8 30), .lit (.int .u8 22), .lit (.int .u8 20), .lit (.int .u8 15), .lit (.int .u8 25), .lit (.int .u8 17), .lit (.int .u8 4), .lit (.int .u8 8), .lit (.int .u8 31), .lit (.int .u8 27), .lit (.int .u8 13), .lit (.int .u8 23), .lit (.int .u8 21), .lit (.int .u8 19), .lit (.int .u8 16), .lit (.int .u8 7), .lit (.int .u8 26), .lit (.int .u8 12), .lit (.int .u8 18), .lit (.int .u8 6), .lit (.int .u8 11), .lit (.int .u8 5), .lit (.int .u8 10), .lit (.int .u8 9)]
def laid_math_bits_deBruijn64tab {H : Type} : DataW H := .agg [.lit (.int .u8 0), .lit (.int .u8 1), .lit (.int .u8 56), .lit (.int .u8 2), .lit (.int .u8 57), .lit (.int .u8 49), .lit (.int .u8 28), .lit (.int .u8 3), .lit (.int .u8 61), .lit (.int .u8 58), .lit (.int .u8 42), .lit (.int .u8 50), .lit (.int .u8 38), .lit (.int .u8 29), .lit (.int .u8 17), .lit (.int .u8 4), .lit (.int .u8 62), .lit (.int .u8 47), .lit (.int .u8 59), .lit (.int .u8 36), .lit (.int .u8 45), .lit (.int .u8 43), .lit (.int .u8 51), .lit (.int .u8 22), .lit (.int .u8 53), .lit (.int .u8 39), .lit (.int .u8 33), .lit (.int .u8 30), .lit (.int .u8 24), .lit (.int .u8 18), .lit (.int .u8 12), .lit (.int .u8 5), .lit (.int .u8 63), .lit (.int .u8 55), .lit (.int .u8 48), .lit (.int .u8 27), .lit (.int .u8 60), .lit (.int .u8 41), .lit (.int .u8 37), .lit (.int .u8 16), .lit (.int .u8 46), .lit (.int .u8 35), .lit (.int .u8 44), .lit (.int .u8 21), .lit (.int .u8 52), .lit (.int .u8 32), .lit (.int .u8 23), .lit (.int .u8 11), .lit (.int .u8 54), .lit (.int .u8 26), .lit (.int .u8 40), .lit (.int .u8 15), .lit (.int .u8 34), .lit (.int .u8 20), .lit (.int .u8 31), .lit (.int .u8 10), .lit (.int .u8 25), .lit (.int .u8 14), .lit (.int .u8 19), .lit (.int .u8 9), .lit (.int .u8 13), .lit (.int .u8 8), .lit (.int .u8 7), .lit (.int .u8 6)]
def laid_internal_strconv_uint64pow10 {H : Type} : DataW H := .agg [.lit (.int .u64 1), .lit (.int .u64 10), .lit (.int .u64 100), .lit (.int .u64 1000), .lit (.int .u64 10000), .lit (.int .u64 100000), .lit (.int .u64 1000000), .lit (.int .u64 10000000), .lit (.int .u64 100000000), .lit (.int .u64 1000000000), .lit (.int .u64 10000000000), .lit (.int .u64 100000000000), .lit (.int .u64 1000000000000), .lit (.int .u64 10000000000000), .lit (.int .u64 100000000000000), .lit (.int .u64 1000000000000000), .lit (.int .u64 10000000000000000), .lit (.int .u64 100000000000000000), .lit (.int .u64 1000000000000000000), .lit (.int .u64 10000000000000000000)]

/-- 'wringinglaw03.PlateGaps': WHATEVER THE INPUT: true; the input reads as it did. -/
def plateGapsSpec : ChangeSpec := { name := "plateGaps", fn := fun _ => fun
  | [d1, d2, d3, d4] => { results := [.lit (.bool true)], args := [d1, d2, d3, d4] }
  | _ => none }
def plateGapsRow : OpenClaim := { program := "ytidcedilfhmllaadoor", sum := "e10fc39b359df17b1271001c74609d02ea4bf0f239b436e1341c4de3968b4a0e", func := "wringing/wringinglaw03.PlateGaps", spec := "plateGaps", inPlace := ["internal/abi.NoEscape"], unfollowed := true, recurses := true, named := ["internal/strconv.uint64pow10", "math/bits.deBruijn32tab", "math/bits.deBruijn64tab"], plainKeys := false, apart := false, laid := [("math/bits.deBruijn32tab", laid_math_bits_deBruijn32tab), ("math/bits.deBruijn64tab", laid_math_bits_deBruijn64tab), ("internal/strconv.uint64pow10", laid_internal_strconv_uint64pow10)] }
def PlateGapsSaid : Prop := plateGapsRow.holds Tryd.pinned (OpenSpec.ofChange plateGapsSpec)

/-- ITS FALSE NEIGHBOUR: 'it returns false'. Refute it at one input. -/
def plateGapsWrong : ChangeSpec := { name := "plateGaps", fn := fun _ => fun
  | [d1, d2, d3, d4] => { results := [.lit (.bool false)], args := [d1, d2, d3, d4] }
  | _ => none }
def PlateGapsWrongFalsely : Prop := plateGapsRow.holds Tryd.pinned (OpenSpec.ofChange plateGapsWrong)

/-- 'wringinglaw03.PlateClasses': WHATEVER THE INPUT: true; the input reads as it did. -/
def plateClassesSpec : ChangeSpec := { name := "plateClasses", fn := fun _ => fun
  | [d1, d2] => { results := [.lit (.bool true)], args := [d1, d2] }
  | _ => none }
def plateClassesRow : OpenClaim := { program := "ytidcedilfhmllaadoor", sum := "e10fc39b359df17b1271001c74609d02ea4bf0f239b436e1341c4de3968b4a0e", func := "wringing/wringinglaw03.PlateClasses", spec := "plateClasses", inPlace := ["internal/abi.NoEscape"], unfollowed := true, recurses := true, named := ["internal/strconv.uint64pow10", "math/bits.deBruijn32tab", "math/bits.deBruijn64tab"], plainKeys := false, apart := false, laid := [("math/bits.deBruijn32tab", laid_math_bits_deBruijn32tab), ("math/bits.deBruijn64tab", laid_math_bits_deBruijn64tab), ("internal/strconv.uint64pow10", laid_internal_strconv_uint64pow10)] }
def PlateClassesSaid : Prop := plateClassesRow.holds Tryd.pinned (OpenSpec.ofChange plateClassesSpec)

/-- ITS FALSE NEIGHBOUR: 'it returns false'. Refute it at one input. -/
def plateClassesWrong : ChangeSpec := { name := "plateClasses", fn := fun _ => fun
  | [d1, d2] => { results := [.lit (.bool false)], args := [d1, d2] }
  | _ => none }
def PlateClassesWrongFalsely : Prop := plateClassesRow.holds Tryd.pinned (OpenSpec.ofChange plateClassesWrong)

/-- 'wringinglaw03.PlateShapes': WHATEVER THE INPUT: true; the input reads as it did. -/
def plateShapesSpec : ChangeSpec := { name := "plateShapes", fn := fun _ => fun
  | [d1, d2, d3] => { results := [.lit (.bool true)], args := [d1, d2, d3] }
  | _ => none }
def plateShapesRow : OpenClaim := { program := "ytidcedilfhmllaadoor", sum := "e10fc39b359df17b1271001c74609d02ea4bf0f239b436e1341c4de3968b4a0e", func := "wringing/wringinglaw03.PlateShapes", spec := "plateShapes", inPlace := ["internal/abi.NoEscape"], unfollowed := true, recurses := true, named := ["internal/strconv.uint64pow10", "math/bits.deBruijn32tab", "math/bits.deBruijn64tab"], plainKeys := false, apart := false, laid := [("math/bits.deBruijn32tab", laid_math_bits_deBruijn32tab), ("math/bits.deBruijn64tab", laid_math_bits_deBruijn64tab), ("internal/strconv.uint64pow10", laid_internal_strconv_uint64pow10)] }
def PlateShapesSaid : Prop := plateShapesRow.holds Tryd.pinned (OpenSpec.ofChange plateShapesSpec)

/-- ITS FALSE NEIGHBOUR: 'it returns false'. Refute it at one input. -/
def plateShapesWrong : ChangeSpec := { name := "plateShapes", fn := fun _ => fun
  | [d1, d2, d3] => { results := [.lit (.bool false)], args := [d1, d2, d3] }
  | _ => none }
def PlateShapesWrongFalsely : Prop := plateShapesRow.holds Tryd.pinned (OpenSpec.ofChange plateShapesWrong)

/-- 'wringinglaw03.PlateHelps': WHATEVER THE INPUT: true; the input reads as it did. -/
def plateHelpsSpec : ChangeSpec := { name := "plateHelps", fn := fun _ => fun
  | [d1, d2] => { results := [.lit (.bool true)], args := [d1, d2] }
  | _ => none }
def plateHelpsRow : OpenClaim := { program := "ytidcedilfhmllaadoor", sum := "e10fc39b359df17b1271001c74609d02ea4bf0f239b436e1341c4de3968b4a0e", func := "wringing/wringinglaw03.PlateHelps", spec := "plateHelps", inPlace := ["internal/abi.NoEscape"], unfollowed := true, recurses := true, named := ["internal/strconv.uint64pow10", "math/bits.deBruijn32tab", "math/bits.deBruijn64tab"], plainKeys := false, apart := false, laid := [("math/bits.deBruijn32tab", laid_math_bits_deBruijn32tab), ("math/bits.deBruijn64tab", laid_math_bits_deBruijn64tab), ("internal/strconv.uint64pow10", laid_internal_strconv_uint64pow10)] }
def PlateHelpsSaid : Prop := plateHelpsRow.holds Tryd.pinned (OpenSpec.ofChange plateHelpsSpec)

/-- ITS FALSE NEIGHBOUR: 'it returns false'. Refute it at one input. -/
def plateHelpsWrong : ChangeSpec := { name := "plateHelps", fn := fun _ => fun
  | [d1, d2] => { results := [.lit (.bool false)], args := [d1, d2] }
  | _ => none }
def PlateHelpsWrongFalsely : Prop := plateHelpsRow.holds Tryd.pinned (OpenSpec.ofChange plateHelpsWrong)

/-- 'wringinglaw03.PlateThree': WHATEVER THE INPUT: true; the input reads as it did. -/
def plateThreeSpec : ChangeSpec := { name := "plateThree", fn := fun _ => fun
  | [d1, d2, d3, d4] => { results := [.lit (.bool true)], args := [d1, d2, d3, d4] }
  | _ => none }
def plateThreeRow : OpenClaim := { program := "ytidcedilfhmllaadoor", sum := "e10fc39b359df17b1271001c74609d02ea4bf0f239b436e1341c4de3968b4a0e", func := "wringing/wringinglaw03.PlateThree", spec := "plateThree", inPlace := ["internal/abi.NoEscape"], unfollowed := true, recurses := true, named := ["internal/strconv.uint64pow10", "math/bits.deBruijn32tab", "math/bits.deBruijn64tab"], plainKeys := false, apart := false, laid := [("math/bits.deBruijn32tab", laid_math_bits_deBruijn32tab), ("math/bits.deBruijn64tab", laid_math_bits_deBruijn64tab), ("internal/strconv.uint64pow10", laid_internal_strconv_uint64pow10)] }
def PlateThreeSaid : Prop := plateThreeRow.holds Tryd.pinned (OpenSpec.ofChange plateThreeSpec)

/-- ITS FALSE NEIGHBOUR: 'it returns false'. Refute it at one input. -/
def plateThreeWrong : ChangeSpec := { name := "plateThree", fn := fun _ => fun
  | [d1, d2, d3, d4] => { results := [.lit (.bool false)], args := [d1, d2, d3, d4] }
  | _ => none }
def PlateThreeWrongFalsely : Prop := plateThreeRow.holds Tryd.pinned (OpenSpec.ofChange plateThreeWrong)

/-- 'wringinglaw03.PlateWalks': WHATEVER THE INPUT: true; the input reads as it did. -/
def plateWalksSpec : ChangeSpec := { name := "plateWalks", fn := fun _ => fun
  | [d1, d2, d3, d4] => { results := [.lit (.bool true)], args := [d1, d2, d3, d4] }
  | _ => none }
def plateWalksRow : OpenClaim := { program := "ytidcedilfhmllaadoor", sum := "e10fc39b359df17b1271001c74609d02ea4bf0f239b436e1341c4de3968b4a0e", func := "wringing/wringinglaw03.PlateWalks", spec := "plateWalks", inPlace := ["internal/abi.NoEscape"], unfollowed := true, recurses := true, named := ["internal/strconv.uint64pow10", "math/bits.deBruijn32tab", "math/bits.deBruijn64tab"], plainKeys := false, apart := false, laid := [("math/bits.deBruijn32tab", laid_math_bits_deBruijn32tab), ("math/bits.deBruijn64tab", laid_math_bits_deBruijn64tab), ("internal/strconv.uint64pow10", laid_internal_strconv_uint64pow10)] }
def PlateWalksSaid : Prop := plateWalksRow.holds Tryd.pinned (OpenSpec.ofChange plateWalksSpec)

/-- ITS FALSE NEIGHBOUR: 'it returns false'. Refute it at one input. -/
def plateWalksWrong : ChangeSpec := { name := "plateWalks", fn := fun _ => fun
  | [d1, d2, d3, d4] => { results := [.lit (.bool false)], args := [d1, d2, d3, d4] }
  | _ => none }
def PlateWalksWrongFalsely : Prop := plateWalksRow.holds Tryd.pinned (OpenSpec.ofChange plateWalksWrong)

/- THE SECOND FORM. 'bulk': how many values and letters a reading holds, each counted each time it is reached (what is shared counts as often as it is met; a slice's spare places count too). A statement '..UptoSaid' is the law's where the arguments, and the package variables that the reading takes, are together of bulk at most 1048576: NARROWER than '..Said'. Prove '..Said' where nothing that the law and all that it calls make is longer than what came in: it says more and counts as full. Else prove '..UptoSaid'. A law counts once. -/
mutual
def uptoBulk {H : Type} : DataW H → Nat
  | .lit (.string bytes) => bytes.length + 1
  | .lit _ => 1
  | .nil => 1
  | .ptr d => uptoBulk d + 1
  | .slice elems spare => uptoBulkAll elems + uptoBulkAll spare + 1
  | .agg parts => uptoBulkAll parts + 1
  | .iface _ d => uptoBulk d + 1
  | .map entries => uptoBulkEntries entries + 1
  | .held _ => 1
def uptoBulkAll {H : Type} : List (DataW H) → Nat
  | [] => 0
  | d :: r => uptoBulk d + uptoBulkAll r
def uptoBulkEntries {H : Type} : List (Lit × DataW H) → Nat
  | [] => 0
  | x :: r => uptoBulkEntry x + uptoBulkEntries r
def uptoBulkEntry {H : Type} : Lit × DataW H → Nat
  | (.string bytes, d) => bytes.length + uptoBulk d + 1
  | (_, d) => uptoBulk d + 1
 end
def uptoSmall : (H : Type) → List (DataW H) → Bool := fun _ ds => decide (uptoBulkAll ds ≤ 1048576)
def OpenSpec.upto (s : _root_.Go.ChangeSpec) : _root_.Go.OpenSpec := { _root_.Go.OpenSpec.ofChange s with cond := some uptoSmall }

/-- 'wringinglaw03.PlateGaps', WHERE WHAT IT READS IS OF BULK AT MOST 1048576: true; the input reads as it did. -/
def plateGapsUptoRow : OpenClaim := { program := "ytidcedilfhmllaadoor", sum := "e10fc39b359df17b1271001c74609d02ea4bf0f239b436e1341c4de3968b4a0e", func := "wringing/wringinglaw03.PlateGaps", spec := "plateGaps", inPlace := ["internal/abi.NoEscape"], unfollowed := true, recurses := true, named := ["internal/strconv.uint64pow10", "math/bits.deBruijn32tab", "math/bits.deBruijn64tab"], plainKeys := false, apart := false, laid := [("math/bits.deBruijn32tab", laid_math_bits_deBruijn32tab), ("math/bits.deBruijn64tab", laid_math_bits_deBruijn64tab), ("internal/strconv.uint64pow10", laid_internal_strconv_uint64pow10)], narrowed := true }
def PlateGapsUptoSaid : Prop := plateGapsUptoRow.holds Tryd.pinned (OpenSpec.upto plateGapsSpec)

/-- 'wringinglaw03.PlateClasses', WHERE WHAT IT READS IS OF BULK AT MOST 1048576: true; the input reads as it did. -/
def plateClassesUptoRow : OpenClaim := { program := "ytidcedilfhmllaadoor", sum := "e10fc39b359df17b1271001c74609d02ea4bf0f239b436e1341c4de3968b4a0e", func := "wringing/wringinglaw03.PlateClasses", spec := "plateClasses", inPlace := ["internal/abi.NoEscape"], unfollowed := true, recurses := true, named := ["internal/strconv.uint64pow10", "math/bits.deBruijn32tab", "math/bits.deBruijn64tab"], plainKeys := false, apart := false, laid := [("math/bits.deBruijn32tab", laid_math_bits_deBruijn32tab), ("math/bits.deBruijn64tab", laid_math_bits_deBruijn64tab), ("internal/strconv.uint64pow10", laid_internal_strconv_uint64pow10)], narrowed := true }
def PlateClassesUptoSaid : Prop := plateClassesUptoRow.holds Tryd.pinned (OpenSpec.upto plateClassesSpec)

/-- 'wringinglaw03.PlateShapes', WHERE WHAT IT READS IS OF BULK AT MOST 1048576: true; the input reads as it did. -/
def plateShapesUptoRow : OpenClaim := { program := "ytidcedilfhmllaadoor", sum := "e10fc39b359df17b1271001c74609d02ea4bf0f239b436e1341c4de3968b4a0e", func := "wringing/wringinglaw03.PlateShapes", spec := "plateShapes", inPlace := ["internal/abi.NoEscape"], unfollowed := true, recurses := true, named := ["internal/strconv.uint64pow10", "math/bits.deBruijn32tab", "math/bits.deBruijn64tab"], plainKeys := false, apart := false, laid := [("math/bits.deBruijn32tab", laid_math_bits_deBruijn32tab), ("math/bits.deBruijn64tab", laid_math_bits_deBruijn64tab), ("internal/strconv.uint64pow10", laid_internal_strconv_uint64pow10)], narrowed := true }
def PlateShapesUptoSaid : Prop := plateShapesUptoRow.holds Tryd.pinned (OpenSpec.upto plateShapesSpec)

/-- 'wringinglaw03.PlateHelps', WHERE WHAT IT READS IS OF BULK AT MOST 1048576: true; the input reads as it did. -/
def plateHelpsUptoRow : OpenClaim := { program := "ytidcedilfhmllaadoor", sum := "e10fc39b359df17b1271001c74609d02ea4bf0f239b436e1341c4de3968b4a0e", func := "wringing/wringinglaw03.PlateHelps", spec := "plateHelps", inPlace := ["internal/abi.NoEscape"], unfollowed := true, recurses := true, named := ["internal/strconv.uint64pow10", "math/bits.deBruijn32tab", "math/bits.deBruijn64tab"], plainKeys := false, apart := false, laid := [("math/bits.deBruijn32tab", laid_math_bits_deBruijn32tab), ("math/bits.deBruijn64tab", laid_math_bits_deBruijn64tab), ("internal/strconv.uint64pow10", laid_internal_strconv_uint64pow10)], narrowed := true }
def PlateHelpsUptoSaid : Prop := plateHelpsUptoRow.holds Tryd.pinned (OpenSpec.upto plateHelpsSpec)

/-- 'wringinglaw03.PlateThree', WHERE WHAT IT READS IS OF BULK AT MOST 1048576: true; the input reads as it did. -/
def plateThreeUptoRow : OpenClaim := { program := "ytidcedilfhmllaadoor", sum := "e10fc39b359df17b1271001c74609d02ea4bf0f239b436e1341c4de3968b4a0e", func := "wringing/wringinglaw03.PlateThree", spec := "plateThree", inPlace := ["internal/abi.NoEscape"], unfollowed := true, recurses := true, named := ["internal/strconv.uint64pow10", "math/bits.deBruijn32tab", "math/bits.deBruijn64tab"], plainKeys := false, apart := false, laid := [("math/bits.deBruijn32tab", laid_math_bits_deBruijn32tab), ("math/bits.deBruijn64tab", laid_math_bits_deBruijn64tab), ("internal/strconv.uint64pow10", laid_internal_strconv_uint64pow10)], narrowed := true }
def PlateThreeUptoSaid : Prop := plateThreeUptoRow.holds Tryd.pinned (OpenSpec.upto plateThreeSpec)

/-- 'wringinglaw03.PlateWalks', WHERE WHAT IT READS IS OF BULK AT MOST 1048576: true; the input reads as it did. -/
def plateWalksUptoRow : OpenClaim := { program := "ytidcedilfhmllaadoor", sum := "e10fc39b359df17b1271001c74609d02ea4bf0f239b436e1341c4de3968b4a0e", func := "wringing/wringinglaw03.PlateWalks", spec := "plateWalks", inPlace := ["internal/abi.NoEscape"], unfollowed := true, recurses := true, named := ["internal/strconv.uint64pow10", "math/bits.deBruijn32tab", "math/bits.deBruijn64tab"], plainKeys := false, apart := false, laid := [("math/bits.deBruijn32tab", laid_math_bits_deBruijn32tab), ("math/bits.deBruijn64tab", laid_math_bits_deBruijn64tab), ("internal/strconv.uint64pow10", laid_internal_strconv_uint64pow10)], narrowed := true }
def PlateWalksUptoSaid : Prop := plateWalksUptoRow.holds Tryd.pinned (OpenSpec.upto plateWalksSpec)

end Rows
end Go.Proofs.YtidcedilfhmllaaDoor
