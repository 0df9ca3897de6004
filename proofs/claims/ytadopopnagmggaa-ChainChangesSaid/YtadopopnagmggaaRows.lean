/-
  No cell of these rows narrows 'for every input' (looked for: loops, veiled, ifaces, maps, wideKeys, modest, calm, conditions, laid).
  DERIVED. THE GIVEN ROWS OF THIS SEAT. 4 by the template 'for every input the law returns true; each argument reads behind the call as it read before'; 0 by the template 'total and deterministic' (their statements: YtadopopnagmggaaTotals.lean).
  GIVEN WITH THE SEED: the statements are not yours to turn. If you find one false, say at which input.
  Laid BY PROGRAM, IN A SANDBOX (cutbox-rows.mjs): the forced cells as the released guide's own fill.sh prints them over the translation 9209f0d33d7e08ee… (all of the seat's roots in one cut). By AI agents, Wed Nov 11 2026. No macro, syntax, notation, axiom, sorry.
-/
import Derived.Test.YtadopopnagmggaaChecked
import GoSem.Claim
import GoSem.ClaimJoined
import GoSem.ClaimMapViews
import Derived.JoinedTies
import Derived.KernelRfl
namespace Go.Proofs.Ytadopopnagmggaa
/- THE CELL 'sum', in the pinned program and in every row, IS THE sha256 OF THE DUMP (.gsa) THAT YtadopopnagmggaaProg.lean LOADS. Nothing in Lean hashes anything: it is a label: what it is worth is what the hold of that sum in a sandbox is worth. -/
noncomputable def Try.pinned : Pinned := { name := "ytadopopnagmggaa", sum := "9209f0d33d7e08eefd98765be9fe8ad79a03662cad892fa313f4d4cc49cbe787", checked := Try.checked }
namespace Rows
def none {H : Type} : Left H := { results := [], args := [] }

/-- 'wringinglaw02.ChainChecks': WHATEVER THE INPUT: true; the input reads as it did. -/
def chainChecksSpec : ChangeSpec := { name := "chainChecks", fn := fun _ => fun
  | [d] => { results := [.lit (.bool true)], args := [d] }
  | _ => none }
def chainChecksRow : OpenClaim := { program := "ytadopopnagmggaa", sum := "9209f0d33d7e08eefd98765be9fe8ad79a03662cad892fa313f4d4cc49cbe787", func := "wringing/wringinglaw02.ChainChecks", spec := "chainChecks", unfollowed := true, recurses := true, apart := false }
def ChainChecksSaid : Prop := chainChecksRow.holds Try.pinned (OpenSpec.ofChange chainChecksSpec)

/-- ITS FALSE NEIGHBOUR: 'it returns false'. Refute it at one input. -/
def chainChecksWrong : ChangeSpec := { name := "chainChecks", fn := fun _ => fun
  | [d] => { results := [.lit (.bool false)], args := [d] }
  | _ => none }
def ChainChecksWrongFalsely : Prop := chainChecksRow.holds Try.pinned (OpenSpec.ofChange chainChecksWrong)

/-- 'wringinglaw02.ChainLists': WHATEVER THE INPUT: true; the input reads as it did. -/
def chainListsSpec : ChangeSpec := { name := "chainLists", fn := fun _ => fun
  | [d1, d2, d3, d4, d5] => { results := [.lit (.bool true)], args := [d1, d2, d3, d4, d5] }
  | _ => none }
def chainListsRow : OpenClaim := { program := "ytadopopnagmggaa", sum := "9209f0d33d7e08eefd98765be9fe8ad79a03662cad892fa313f4d4cc49cbe787", func := "wringing/wringinglaw02.ChainLists", spec := "chainLists", unfollowed := true, recurses := true, apart := false }
def ChainListsSaid : Prop := chainListsRow.holds Try.pinned (OpenSpec.ofChange chainListsSpec)

/-- ITS FALSE NEIGHBOUR: 'it returns false'. Refute it at one input. -/
def chainListsWrong : ChangeSpec := { name := "chainLists", fn := fun _ => fun
  | [d1, d2, d3, d4, d5] => { results := [.lit (.bool false)], args := [d1, d2, d3, d4, d5] }
  | _ => none }
def ChainListsWrongFalsely : Prop := chainListsRow.holds Try.pinned (OpenSpec.ofChange chainListsWrong)

/-- 'wringinglaw02.ChainChanges': WHATEVER THE INPUT: true; the input reads as it did. -/
def chainChangesSpec : ChangeSpec := { name := "chainChanges", fn := fun _ => fun
  | [d1, d2, d3] => { results := [.lit (.bool true)], args := [d1, d2, d3] }
  | _ => none }
def chainChangesRow : OpenClaim := { program := "ytadopopnagmggaa", sum := "9209f0d33d7e08eefd98765be9fe8ad79a03662cad892fa313f4d4cc49cbe787", func := "wringing/wringinglaw02.ChainChanges", spec := "chainChanges", unfollowed := true, recurses := true, apart := false }
def ChainChangesSaid : Prop := chainChangesRow.holds Try.pinned (OpenSpec.ofChange chainChangesSpec)

/-- ITS FALSE NEIGHBOUR: 'it returns false'. Refute it at one input. -/
def chainChangesWrong : ChangeSpec := { name := "chainChanges", fn := fun _ => fun
  | [d1, d2, d3] => { results := [.lit (.bool false)], args := [d1, d2, d3] }
  | _ => none }
def ChainChangesWrongFalsely : Prop := chainChangesRow.holds Try.pinned (OpenSpec.ofChange chainChangesWrong)

/-- 'wringinglaw02.ChainLattice': WHATEVER THE INPUT: true; the input reads as it did. -/
def chainLatticeSpec : ChangeSpec := { name := "chainLattice", fn := fun _ => fun
  | [d1, d2, d3] => { results := [.lit (.bool true)], args := [d1, d2, d3] }
  | _ => none }
def chainLatticeRow : OpenClaim := { program := "ytadopopnagmggaa", sum := "9209f0d33d7e08eefd98765be9fe8ad79a03662cad892fa313f4d4cc49cbe787", func := "wringing/wringinglaw02.ChainLattice", spec := "chainLattice", unfollowed := true, recurses := true, apart := false }
def ChainLatticeSaid : Prop := chainLatticeRow.holds Try.pinned (OpenSpec.ofChange chainLatticeSpec)

/-- ITS FALSE NEIGHBOUR: 'it returns false'. Refute it at one input. -/
def chainLatticeWrong : ChangeSpec := { name := "chainLattice", fn := fun _ => fun
  | [d1, d2, d3] => { results := [.lit (.bool false)], args := [d1, d2, d3] }
  | _ => none }
def ChainLatticeWrongFalsely : Prop := chainLatticeRow.holds Try.pinned (OpenSpec.ofChange chainLatticeWrong)

/- THE SECOND FORM. 'bulk': how many values and letters a reading holds, each counted each time it is reached (what is shared counts as often as it is met; a slice's spare places count too). A statement '..UptoSaid' is the law's where the arguments, and the package variables that the reading takes, are together of bulk at most 1048576: NARROWER than '..Said'. Prove '..Said' where nothing that the law and all that it calls make is longer than what came in: it says more and counts as full. Else prove '..UptoSaid'. A law counts once. -/
mutual
def uptoBulk {H : Type} : DataW H → Nat
  | .lit (.string bytes) => bytes.length + 1
  | .lit _ => 1
  | .nil => 1
  | .ptr d => uptoBulk d + 1
  | .slice elems spare => uptoBulkAll elems + uptoBulkAll spare + 1
  | .agg parts => uptoBulkAll parts + 1
  | .iface _ d => uptoBulk d + 1
  | .map entries => uptoBulkEntries entries + 1
  | .held _ => 1
def uptoBulkAll {H : Type} : List (DataW H) → Nat
  | [] => 0
  | d :: r => uptoBulk d + uptoBulkAll r
def uptoBulkEntries {H : Type} : List (Lit × DataW H) → Nat
  | [] => 0
  | x :: r => uptoBulkEntry x + uptoBulkEntries r
def uptoBulkEntry {H : Type} : Lit × DataW H → Nat
  | (.string bytes, d) => bytes.length + uptoBulk d + 1
  | (_, d) => uptoBulk d + 1
 end
def uptoSmall : (H : Type) → List (DataW H) → Bool := fun _ ds => decide (uptoBulkAll ds ≤ 1048576)
def OpenSpec.upto (s : _root_.Go.ChangeSpec) : _root_.Go.OpenSpec := { _root_.Go.OpenSpec.ofChange s with cond := some uptoSmall }

/-- 'wringinglaw02.ChainChecks', WHERE WHAT IT READS IS OF BULK AT MOST 1048576: true; the input reads as it did. -/
def chainChecksUptoRow : OpenClaim := { program := "ytadopopnagmggaa", sum := "9209f0d33d7e08eefd98765be9fe8ad79a03662cad892fa313f4d4cc49cbe787", func := "wringing/wringinglaw02.ChainChecks", spec := "chainChecks", unfollowed := true, recurses := true, apart := false, narrowed := true }
def ChainChecksUptoSaid : Prop := chainChecksUptoRow.holds Try.pinned (OpenSpec.upto chainChecksSpec)

/-- 'wringinglaw02.ChainLists', WHERE WHAT IT READS IS OF BULK AT MOST 1048576: true; the input reads as it did. -/
def chainListsUptoRow : OpenClaim := { program := "ytadopopnagmggaa", sum := "9209f0d33d7e08eefd98765be9fe8ad79a03662cad892fa313f4d4cc49cbe787", func := "wringing/wringinglaw02.ChainLists", spec := "chainLists", unfollowed := true, recurses := true, apart := false, narrowed := true }
def ChainListsUptoSaid : Prop := chainListsUptoRow.holds Try.pinned (OpenSpec.upto chainListsSpec)

/-- 'wringinglaw02.ChainChanges', WHERE WHAT IT READS IS OF BULK AT MOST 1048576: true; the input reads as it did. -/
def chainChangesUptoRow : OpenClaim := { program := "ytadopopnagmggaa", sum := "9209f0d33d7e08eefd98765be9fe8ad79a03662cad892fa313f4d4cc49cbe787", func := "wringing/wringinglaw02.ChainChanges", spec := "chainChanges", unfollowed := true, recurses := true, apart := false, narrowed := true }
def ChainChangesUptoSaid : Prop := chainChangesUptoRow.holds Try.pinned (OpenSpec.upto chainChangesSpec)

/-- 'wringinglaw02.ChainLattice', WHERE WHAT IT READS IS OF BULK AT MOST 1048576: true; the input reads as it did. -/
def chainLatticeUptoRow : OpenClaim := { program := "ytadopopnagmggaa", sum := "9209f0d33d7e08eefd98765be9fe8ad79a03662cad892fa313f4d4cc49cbe787", func := "wringing/wringinglaw02.ChainLattice", spec := "chainLattice", unfollowed := true, recurses := true, apart := false, narrowed := true }
def ChainLatticeUptoSaid : Prop := chainLatticeUptoRow.holds Try.pinned (OpenSpec.upto chainLatticeSpec)

end Rows
end Go.Proofs.Ytadopopnagmggaa
