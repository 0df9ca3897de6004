/-
  DERIVED. GIVEN WITH THE SEED: THE CARDS: each row of YtidcedilfhmllaaDoorRows.lean that lists a variable, with what it lists TIED to the program's text (the seventh form; the later family's looks); each row that meets fmt, with fmt's text TOLD by the authors' own Lean function (tested against real Go, not proved from fmt's source: count such statements apart). THE CARD IS WHAT COUNTS. Prove the row's statement (the work); the ties are given (YtidcedilfhmllaaDoorTie.lean); close each card by the builder's one call (the guide's Derived/Test/ToyasCard.lean, 'card_holds'). Laid BY PROGRAM, IN A SANDBOX (cutbox-door.mjs). By AI agents, Wed Nov 11 2026. No macro, syntax, notation, axiom, sorry.
-/
import Derived.Test.YtidcedilfhmllaaDoorRows
import GoSem.ClaimSeven
namespace Go.Proofs.YtidcedilfhmllaaDoor
namespace Rows

/-- THE TIED CARD OF 'wringinglaw03.PlateGaps'. -/
def plateGapsCard : Claim7 := { stood := { row := plateGapsRow, standIns := [], harness := (true, "2a1d028671d056c0884fcda0ab64c184bbd4852b49e3ae82d9bb1be34e8f6554"), looks := false }, kinds := [], alts := [], laidByText := true, laidKinds := [.data, .data, .data], laidTests := true, laidLooks := .later }
def PlateGapsCardSaid : Prop := Claim7.holds Tryd.pinned (.plain (OpenSpec.ofChange plateGapsSpec)) plateGapsCard

/-- THE TIED CARD OF 'wringinglaw03.PlateClasses'. -/
def plateClassesCard : Claim7 := { stood := { row := plateClassesRow, standIns := [], harness := (true, "2a1d028671d056c0884fcda0ab64c184bbd4852b49e3ae82d9bb1be34e8f6554"), looks := false }, kinds := [], alts := [], laidByText := true, laidKinds := [.data, .data, .data], laidTests := true, laidLooks := .later }
def PlateClassesCardSaid : Prop := Claim7.holds Tryd.pinned (.plain (OpenSpec.ofChange plateClassesSpec)) plateClassesCard

/-- THE TIED CARD OF 'wringinglaw03.PlateShapes'. -/
def plateShapesCard : Claim7 := { stood := { row := plateShapesRow, standIns := [], harness := (true, "2a1d028671d056c0884fcda0ab64c184bbd4852b49e3ae82d9bb1be34e8f6554"), looks := false }, kinds := [], alts := [], laidByText := true, laidKinds := [.data, .data, .data], laidTests := true, laidLooks := .later }
def PlateShapesCardSaid : Prop := Claim7.holds Tryd.pinned (.plain (OpenSpec.ofChange plateShapesSpec)) plateShapesCard

/-- THE TIED CARD OF 'wringinglaw03.PlateHelps'. -/
def plateHelpsCard : Claim7 := { stood := { row := plateHelpsRow, standIns := [], harness := (true, "2a1d028671d056c0884fcda0ab64c184bbd4852b49e3ae82d9bb1be34e8f6554"), looks := false }, kinds := [], alts := [], laidByText := true, laidKinds := [.data, .data, .data], laidTests := true, laidLooks := .later }
def PlateHelpsCardSaid : Prop := Claim7.holds Tryd.pinned (.plain (OpenSpec.ofChange plateHelpsSpec)) plateHelpsCard

/-- THE TIED CARD OF 'wringinglaw03.PlateThree'. -/
def plateThreeCard : Claim7 := { stood := { row := plateThreeRow, standIns := [], harness := (true, "2a1d028671d056c0884fcda0ab64c184bbd4852b49e3ae82d9bb1be34e8f6554"), looks := false }, kinds := [], alts := [], laidByText := true, laidKinds := [.data, .data, .data], laidTests := true, laidLooks := .later }
def PlateThreeCardSaid : Prop := Claim7.holds Tryd.pinned (.plain (OpenSpec.ofChange plateThreeSpec)) plateThreeCard

/-- THE TIED CARD OF 'wringinglaw03.PlateWalks'. -/
def plateWalksCard : Claim7 := { stood := { row := plateWalksRow, standIns := [], harness := (true, "2a1d028671d056c0884fcda0ab64c184bbd4852b49e3ae82d9bb1be34e8f6554"), looks := false }, kinds := [], alts := [], laidByText := true, laidKinds := [.data, .data, .data], laidTests := true, laidLooks := .later }
def PlateWalksCardSaid : Prop := Claim7.holds Tryd.pinned (.plain (OpenSpec.ofChange plateWalksSpec)) plateWalksCard

/-- THE SECOND FORM's CARD OF 'wringinglaw03.PlateGaps'. -/
def plateGapsUptoCard : Claim7 := { stood := { row := plateGapsUptoRow, standIns := [], harness := (true, "2a1d028671d056c0884fcda0ab64c184bbd4852b49e3ae82d9bb1be34e8f6554"), looks := false }, kinds := [], alts := [], laidByText := true, laidKinds := [.data, .data, .data], laidTests := true, laidLooks := .later }
def PlateGapsUptoCardSaid : Prop := Claim7.holds Tryd.pinned (.plain (OpenSpec.upto plateGapsSpec)) plateGapsUptoCard

/-- THE SECOND FORM's CARD OF 'wringinglaw03.PlateClasses'. -/
def plateClassesUptoCard : Claim7 := { stood := { row := plateClassesUptoRow, standIns := [], harness := (true, "2a1d028671d056c0884fcda0ab64c184bbd4852b49e3ae82d9bb1be34e8f6554"), looks := false }, kinds := [], alts := [], laidByText := true, laidKinds := [.data, .data, .data], laidTests := true, laidLooks := .later }
def PlateClassesUptoCardSaid : Prop := Claim7.holds Tryd.pinned (.plain (OpenSpec.upto plateClassesSpec)) plateClassesUptoCard

/-- THE SECOND FORM's CARD OF 'wringinglaw03.PlateShapes'. -/
def plateShapesUptoCard : Claim7 := { stood := { row := plateShapesUptoRow, standIns := [], harness := (true, "2a1d028671d056c0884fcda0ab64c184bbd4852b49e3ae82d9bb1be34e8f6554"), looks := false }, kinds := [], alts := [], laidByText := true, laidKinds := [.data, .data, .data], laidTests := true, laidLooks := .later }
def PlateShapesUptoCardSaid : Prop := Claim7.holds Tryd.pinned (.plain (OpenSpec.upto plateShapesSpec)) plateShapesUptoCard

/-- THE SECOND FORM's CARD OF 'wringinglaw03.PlateHelps'. -/
def plateHelpsUptoCard : Claim7 := { stood := { row := plateHelpsUptoRow, standIns := [], harness := (true, "2a1d028671d056c0884fcda0ab64c184bbd4852b49e3ae82d9bb1be34e8f6554"), looks := false }, kinds := [], alts := [], laidByText := true, laidKinds := [.data, .data, .data], laidTests := true, laidLooks := .later }
def PlateHelpsUptoCardSaid : Prop := Claim7.holds Tryd.pinned (.plain (OpenSpec.upto plateHelpsSpec)) plateHelpsUptoCard

/-- THE SECOND FORM's CARD OF 'wringinglaw03.PlateThree'. -/
def plateThreeUptoCard : Claim7 := { stood := { row := plateThreeUptoRow, standIns := [], harness := (true, "2a1d028671d056c0884fcda0ab64c184bbd4852b49e3ae82d9bb1be34e8f6554"), looks := false }, kinds := [], alts := [], laidByText := true, laidKinds := [.data, .data, .data], laidTests := true, laidLooks := .later }
def PlateThreeUptoCardSaid : Prop := Claim7.holds Tryd.pinned (.plain (OpenSpec.upto plateThreeSpec)) plateThreeUptoCard

/-- THE SECOND FORM's CARD OF 'wringinglaw03.PlateWalks'. -/
def plateWalksUptoCard : Claim7 := { stood := { row := plateWalksUptoRow, standIns := [], harness := (true, "2a1d028671d056c0884fcda0ab64c184bbd4852b49e3ae82d9bb1be34e8f6554"), looks := false }, kinds := [], alts := [], laidByText := true, laidKinds := [.data, .data, .data], laidTests := true, laidLooks := .later }
def PlateWalksUptoCardSaid : Prop := Claim7.holds Tryd.pinned (.plain (OpenSpec.upto plateWalksSpec)) plateWalksUptoCard
end Rows
end Go.Proofs.YtidcedilfhmllaaDoor
