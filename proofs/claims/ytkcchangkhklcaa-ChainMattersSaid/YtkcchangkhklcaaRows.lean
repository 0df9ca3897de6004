/-
  No cell of these rows narrows 'for every input' (looked for: loops, veiled, ifaces, maps, wideKeys, modest, calm, conditions, laid).
  DERIVED. THE GIVEN ROWS OF THIS SEAT. 6 by the template 'for every input the law returns true; each argument reads behind the call as it read before'; 0 by the template 'total and deterministic' (their statements: YtkcchangkhklcaaTotals.lean).
  GIVEN WITH THE SEED: the statements are not yours to turn. If you find one false, say at which input.
  Laid BY PROGRAM, IN A SANDBOX (cutbox-rows.mjs): the forced cells as the released guide's own fill.sh prints them over the translation a01988f943607e8c… (all of the seat's roots in one cut). By AI agents, Wed Nov 11 2026. No macro, syntax, notation, axiom, sorry.
-/
import Derived.Test.YtkcchangkhklcaaChecked
import GoSem.Claim
import GoSem.ClaimJoined
import GoSem.ClaimMapViews
import Derived.JoinedTies
import Derived.KernelRfl
namespace Go.Proofs.Ytkcchangkhklcaa
/- THE CELL 'sum', in the pinned program and in every row, IS THE sha256 OF THE DUMP (.gsa) THAT YtkcchangkhklcaaProg.lean LOADS. Nothing in Lean hashes anything: it is a label: what it is worth is what the hold of that sum in a sandbox is worth. -/
noncomputable def Try.pinned : Pinned := { name := "ytkcchangkhklcaa", sum := "a01988f943607e8c8954ccfd995db252f8c04af44339c67fd95799167bc8cdb7", checked := Try.checked }
namespace Rows
def none {H : Type} : Left H := { results := [], args := [] }

/-- 'wringinglaw02.ChainChecks': WHATEVER THE INPUT: true; the input reads as it did. -/
def chainChecksSpec : ChangeSpec := { name := "chainChecks", fn := fun _ => fun
  | [d] => { results := [.lit (.bool true)], args := [d] }
  | _ => none }
def chainChecksRow : OpenClaim := { program := "ytkcchangkhklcaa", sum := "a01988f943607e8c8954ccfd995db252f8c04af44339c67fd95799167bc8cdb7", func := "wringing/wringinglaw02.ChainChecks", spec := "chainChecks", unfollowed := true, recurses := true, apart := false }
def ChainChecksSaid : Prop := chainChecksRow.holds Try.pinned (OpenSpec.ofChange chainChecksSpec)

/-- ITS FALSE NEIGHBOUR: 'it returns false'. Refute it at one input. -/
def chainChecksWrong : ChangeSpec := { name := "chainChecks", fn := fun _ => fun
  | [d] => { results := [.lit (.bool false)], args := [d] }
  | _ => none }
def ChainChecksWrongFalsely : Prop := chainChecksRow.holds Try.pinned (OpenSpec.ofChange chainChecksWrong)

/-- 'wringinglaw02.ChainBounds': WHATEVER THE INPUT: true; the input reads as it did. -/
def chainBoundsSpec : ChangeSpec := { name := "chainBounds", fn := fun _ => fun
  | [d1, d2, d3] => { results := [.lit (.bool true)], args := [d1, d2, d3] }
  | _ => none }
def chainBoundsRow : OpenClaim := { program := "ytkcchangkhklcaa", sum := "a01988f943607e8c8954ccfd995db252f8c04af44339c67fd95799167bc8cdb7", func := "wringing/wringinglaw02.ChainBounds", spec := "chainBounds", unfollowed := true, recurses := true, apart := false }
def ChainBoundsSaid : Prop := chainBoundsRow.holds Try.pinned (OpenSpec.ofChange chainBoundsSpec)

/-- ITS FALSE NEIGHBOUR: 'it returns false'. Refute it at one input. -/
def chainBoundsWrong : ChangeSpec := { name := "chainBounds", fn := fun _ => fun
  | [d1, d2, d3] => { results := [.lit (.bool false)], args := [d1, d2, d3] }
  | _ => none }
def ChainBoundsWrongFalsely : Prop := chainBoundsRow.holds Try.pinned (OpenSpec.ofChange chainBoundsWrong)

/-- 'wringinglaw02.ChainTables': WHATEVER THE INPUT: true; the input reads as it did. -/
def chainTablesSpec : ChangeSpec := { name := "chainTables", fn := fun _ => fun
  | [d] => { results := [.lit (.bool true)], args := [d] }
  | _ => none }
def chainTablesRow : OpenClaim := { program := "ytkcchangkhklcaa", sum := "a01988f943607e8c8954ccfd995db252f8c04af44339c67fd95799167bc8cdb7", func := "wringing/wringinglaw02.ChainTables", spec := "chainTables", unfollowed := true, recurses := true, apart := false }
def ChainTablesSaid : Prop := chainTablesRow.holds Try.pinned (OpenSpec.ofChange chainTablesSpec)

/-- ITS FALSE NEIGHBOUR: 'it returns false'. Refute it at one input. -/
def chainTablesWrong : ChangeSpec := { name := "chainTables", fn := fun _ => fun
  | [d] => { results := [.lit (.bool false)], args := [d] }
  | _ => none }
def ChainTablesWrongFalsely : Prop := chainTablesRow.holds Try.pinned (OpenSpec.ofChange chainTablesWrong)

/-- 'wringinglaw02.ChainMatters': WHATEVER THE INPUT: true; the input reads as it did. -/
def chainMattersSpec : ChangeSpec := { name := "chainMatters", fn := fun _ => fun
  | [d1, d2] => { results := [.lit (.bool true)], args := [d1, d2] }
  | _ => none }
def chainMattersRow : OpenClaim := { program := "ytkcchangkhklcaa", sum := "a01988f943607e8c8954ccfd995db252f8c04af44339c67fd95799167bc8cdb7", func := "wringing/wringinglaw02.ChainMatters", spec := "chainMatters", unfollowed := true, recurses := true, apart := false }
def ChainMattersSaid : Prop := chainMattersRow.holds Try.pinned (OpenSpec.ofChange chainMattersSpec)

/-- ITS FALSE NEIGHBOUR: 'it returns false'. Refute it at one input. -/
def chainMattersWrong : ChangeSpec := { name := "chainMatters", fn := fun _ => fun
  | [d1, d2] => { results := [.lit (.bool false)], args := [d1, d2] }
  | _ => none }
def ChainMattersWrongFalsely : Prop := chainMattersRow.holds Try.pinned (OpenSpec.ofChange chainMattersWrong)

/-- 'wringinglaw02.ChainClosed': WHATEVER THE INPUT: true; the input reads as it did. -/
def chainClosedSpec : ChangeSpec := { name := "chainClosed", fn := fun _ => fun
  | [d1, d2, d3, d4, d5] => { results := [.lit (.bool true)], args := [d1, d2, d3, d4, d5] }
  | _ => none }
def chainClosedRow : OpenClaim := { program := "ytkcchangkhklcaa", sum := "a01988f943607e8c8954ccfd995db252f8c04af44339c67fd95799167bc8cdb7", func := "wringing/wringinglaw02.ChainClosed", spec := "chainClosed", unfollowed := true, recurses := true, apart := false }
def ChainClosedSaid : Prop := chainClosedRow.holds Try.pinned (OpenSpec.ofChange chainClosedSpec)

/-- ITS FALSE NEIGHBOUR: 'it returns false'. Refute it at one input. -/
def chainClosedWrong : ChangeSpec := { name := "chainClosed", fn := fun _ => fun
  | [d1, d2, d3, d4, d5] => { results := [.lit (.bool false)], args := [d1, d2, d3, d4, d5] }
  | _ => none }
def ChainClosedWrongFalsely : Prop := chainClosedRow.holds Try.pinned (OpenSpec.ofChange chainClosedWrong)

/-- 'wringinglaw02.ChainReduced': WHATEVER THE INPUT: true; the input reads as it did. -/
def chainReducedSpec : ChangeSpec := { name := "chainReduced", fn := fun _ => fun
  | [d] => { results := [.lit (.bool true)], args := [d] }
  | _ => none }
def chainReducedRow : OpenClaim := { program := "ytkcchangkhklcaa", sum := "a01988f943607e8c8954ccfd995db252f8c04af44339c67fd95799167bc8cdb7", func := "wringing/wringinglaw02.ChainReduced", spec := "chainReduced", unfollowed := true, recurses := true, apart := false }
def ChainReducedSaid : Prop := chainReducedRow.holds Try.pinned (OpenSpec.ofChange chainReducedSpec)

/-- ITS FALSE NEIGHBOUR: 'it returns false'. Refute it at one input. -/
def chainReducedWrong : ChangeSpec := { name := "chainReduced", fn := fun _ => fun
  | [d] => { results := [.lit (.bool false)], args := [d] }
  | _ => none }
def ChainReducedWrongFalsely : Prop := chainReducedRow.holds Try.pinned (OpenSpec.ofChange chainReducedWrong)

/- THE SECOND FORM. 'bulk': how many values and letters a reading holds, each counted each time it is reached (what is shared counts as often as it is met; a slice's spare places count too). A statement '..UptoSaid' is the law's where the arguments, and the package variables that the reading takes, are together of bulk at most 1048576: NARROWER than '..Said'. Prove '..Said' where nothing that the law and all that it calls make is longer than what came in: it says more and counts as full. Else prove '..UptoSaid'. A law counts once. -/
mutual
def uptoBulk {H : Type} : DataW H → Nat
  | .lit (.string bytes) => bytes.length + 1
  | .lit _ => 1
  | .nil => 1
  | .ptr d => uptoBulk d + 1
  | .slice elems spare => uptoBulkAll elems + uptoBulkAll spare + 1
  | .agg parts => uptoBulkAll parts + 1
  | .iface _ d => uptoBulk d + 1
  | .map entries => uptoBulkEntries entries + 1
  | .held _ => 1
def uptoBulkAll {H : Type} : List (DataW H) → Nat
  | [] => 0
  | d :: r => uptoBulk d + uptoBulkAll r
def uptoBulkEntries {H : Type} : List (Lit × DataW H) → Nat
  | [] => 0
  | x :: r => uptoBulkEntry x + uptoBulkEntries r
def uptoBulkEntry {H : Type} : Lit × DataW H → Nat
  | (.string bytes, d) => bytes.length + uptoBulk d + 1
  | (_, d) => uptoBulk d + 1
 end
def uptoSmall : (H : Type) → List (DataW H) → Bool := fun _ ds => decide (uptoBulkAll ds ≤ 1048576)
def OpenSpec.upto (s : _root_.Go.ChangeSpec) : _root_.Go.OpenSpec := { _root_.Go.OpenSpec.ofChange s with cond := some uptoSmall }

/-- 'wringinglaw02.ChainChecks', WHERE WHAT IT READS IS OF BULK AT MOST 1048576: true; the input reads as it did. -/
def chainChecksUptoRow : OpenClaim := { program := "ytkcchangkhklcaa", sum := "a01988f943607e8c8954ccfd995db252f8c04af44339c67fd95799167bc8cdb7", func := "wringing/wringinglaw02.ChainChecks", spec := "chainChecks", unfollowed := true, recurses := true, apart := false, narrowed := true }
def ChainChecksUptoSaid : Prop := chainChecksUptoRow.holds Try.pinned (OpenSpec.upto chainChecksSpec)

/-- 'wringinglaw02.ChainBounds', WHERE WHAT IT READS IS OF BULK AT MOST 1048576: true; the input reads as it did. -/
def chainBoundsUptoRow : OpenClaim := { program := "ytkcchangkhklcaa", sum := "a01988f943607e8c8954ccfd995db252f8c04af44339c67fd95799167bc8cdb7", func := "wringing/wringinglaw02.ChainBounds", spec := "chainBounds", unfollowed := true, recurses := true, apart := false, narrowed := true }
def ChainBoundsUptoSaid : Prop := chainBoundsUptoRow.holds Try.pinned (OpenSpec.upto chainBoundsSpec)

/-- 'wringinglaw02.ChainTables', WHERE WHAT IT READS IS OF BULK AT MOST 1048576: true; the input reads as it did. -/
def chainTablesUptoRow : OpenClaim := { program := "ytkcchangkhklcaa", sum := "a01988f943607e8c8954ccfd995db252f8c04af44339c67fd95799167bc8cdb7", func := "wringing/wringinglaw02.ChainTables", spec := "chainTables", unfollowed := true, recurses := true, apart := false, narrowed := true }
def ChainTablesUptoSaid : Prop := chainTablesUptoRow.holds Try.pinned (OpenSpec.upto chainTablesSpec)

/-- 'wringinglaw02.ChainMatters', WHERE WHAT IT READS IS OF BULK AT MOST 1048576: true; the input reads as it did. -/
def chainMattersUptoRow : OpenClaim := { program := "ytkcchangkhklcaa", sum := "a01988f943607e8c8954ccfd995db252f8c04af44339c67fd95799167bc8cdb7", func := "wringing/wringinglaw02.ChainMatters", spec := "chainMatters", unfollowed := true, recurses := true, apart := false, narrowed := true }
def ChainMattersUptoSaid : Prop := chainMattersUptoRow.holds Try.pinned (OpenSpec.upto chainMattersSpec)

/-- 'wringinglaw02.ChainClosed', WHERE WHAT IT READS IS OF BULK AT MOST 1048576: true; the input reads as it did. -/
def chainClosedUptoRow : OpenClaim := { program := "ytkcchangkhklcaa", sum := "a01988f943607e8c8954ccfd995db252f8c04af44339c67fd95799167bc8cdb7", func := "wringing/wringinglaw02.ChainClosed", spec := "chainClosed", unfollowed := true, recurses := true, apart := false, narrowed := true }
def ChainClosedUptoSaid : Prop := chainClosedUptoRow.holds Try.pinned (OpenSpec.upto chainClosedSpec)

/-- 'wringinglaw02.ChainReduced', WHERE WHAT IT READS IS OF BULK AT MOST 1048576: true; the input reads as it did. -/
def chainReducedUptoRow : OpenClaim := { program := "ytkcchangkhklcaa", sum := "a01988f943607e8c8954ccfd995db252f8c04af44339c67fd95799167bc8cdb7", func := "wringing/wringinglaw02.ChainReduced", spec := "chainReduced", unfollowed := true, recurses := true, apart := false, narrowed := true }
def ChainReducedUptoSaid : Prop := chainReducedUptoRow.holds Try.pinned (OpenSpec.upto chainReducedSpec)

end Rows
end Go.Proofs.Ytkcchangkhklcaa
