/-
  DERIVED. GIVEN WITH THE SEED: THE CARDS: each row of YtmkjmpkicmadcaaDoorRows.lean that lists a variable, with what it lists TIED to the program's text (the seventh form; the later family's looks); each row that meets fmt, with fmt's text TOLD by the authors' own Lean function (tested against real Go, not proved from fmt's source: count such statements apart). THE CARD IS WHAT COUNTS. Prove the row's statement (the work); the ties are given (YtmkjmpkicmadcaaDoorTie.lean); close each card by the builder's one call (the guide's Derived/Test/ToyasCard.lean, 'card_holds'). Laid BY PROGRAM, IN A SANDBOX (cutbox-door.mjs). By AI agents, Wed Nov 11 2026. No macro, syntax, notation, axiom, sorry.
-/
import Derived.Test.YtmkjmpkicmadcaaDoorRows
import GoSem.ClaimSeven
namespace Go.Proofs.YtmkjmpkicmadcaaDoor
namespace Rows

/-- THE TIED CARD OF 'wringinglaw03.PlateTurns'. -/
def plateTurnsCard : Claim7 := { stood := { row := plateTurnsRow, standIns := [], harness := (true, "cf4ea9ca1bf06e94e90d2b162e2221c45de0cd4f6d58becf0b485eae0b27099f"), looks := false }, kinds := [], alts := [], laidByText := true, laidKinds := [.data, .data, .data], laidTests := true, laidLooks := .later }
def PlateTurnsCardSaid : Prop := Claim7.holds Tryd.pinned (.plain (OpenSpec.ofChange plateTurnsSpec)) plateTurnsCard

/-- THE TIED CARD OF 'wringinglaw03.PlateFollows'. -/
def plateFollowsCard : Claim7 := { stood := { row := plateFollowsRow, standIns := [], harness := (true, "cf4ea9ca1bf06e94e90d2b162e2221c45de0cd4f6d58becf0b485eae0b27099f"), looks := false }, kinds := [], alts := [], laidByText := true, laidKinds := [.data, .data, .data], laidTests := true, laidLooks := .later }
def PlateFollowsCardSaid : Prop := Claim7.holds Tryd.pinned (.plain (OpenSpec.ofChange plateFollowsSpec)) plateFollowsCard

/-- THE TIED CARD OF 'wringinglaw03.PlateGroup'. -/
def plateGroupCard : Claim7 := { stood := { row := plateGroupRow, standIns := [], harness := (true, "cf4ea9ca1bf06e94e90d2b162e2221c45de0cd4f6d58becf0b485eae0b27099f"), looks := false }, kinds := [], alts := [], laidByText := true, laidKinds := [.data, .data, .data], laidTests := true, laidLooks := .later }
def PlateGroupCardSaid : Prop := Claim7.holds Tryd.pinned (.plain (OpenSpec.ofChange plateGroupSpec)) plateGroupCard

/-- THE SECOND FORM's CARD OF 'wringinglaw03.PlateTurns'. -/
def plateTurnsUptoCard : Claim7 := { stood := { row := plateTurnsUptoRow, standIns := [], harness := (true, "cf4ea9ca1bf06e94e90d2b162e2221c45de0cd4f6d58becf0b485eae0b27099f"), looks := false }, kinds := [], alts := [], laidByText := true, laidKinds := [.data, .data, .data], laidTests := true, laidLooks := .later }
def PlateTurnsUptoCardSaid : Prop := Claim7.holds Tryd.pinned (.plain (OpenSpec.upto plateTurnsSpec)) plateTurnsUptoCard

/-- THE SECOND FORM's CARD OF 'wringinglaw03.PlateFollows'. -/
def plateFollowsUptoCard : Claim7 := { stood := { row := plateFollowsUptoRow, standIns := [], harness := (true, "cf4ea9ca1bf06e94e90d2b162e2221c45de0cd4f6d58becf0b485eae0b27099f"), looks := false }, kinds := [], alts := [], laidByText := true, laidKinds := [.data, .data, .data], laidTests := true, laidLooks := .later }
def PlateFollowsUptoCardSaid : Prop := Claim7.holds Tryd.pinned (.plain (OpenSpec.upto plateFollowsSpec)) plateFollowsUptoCard

/-- THE SECOND FORM's CARD OF 'wringinglaw03.PlateGroup'. -/
def plateGroupUptoCard : Claim7 := { stood := { row := plateGroupUptoRow, standIns := [], harness := (true, "cf4ea9ca1bf06e94e90d2b162e2221c45de0cd4f6d58becf0b485eae0b27099f"), looks := false }, kinds := [], alts := [], laidByText := true, laidKinds := [.data, .data, .data], laidTests := true, laidLooks := .later }
def PlateGroupUptoCardSaid : Prop := Claim7.holds Tryd.pinned (.plain (OpenSpec.upto plateGroupSpec)) plateGroupUptoCard
end Rows
end Go.Proofs.YtmkjmpkicmadcaaDoor
