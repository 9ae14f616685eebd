/-
  DERIVED. GIVEN WITH THE SEED: THE CARDS: each row of YtnfmcdhllplgmaaDoorRows.lean that lists a variable, with what it lists TIED to the program's text (the seventh form; the later family's looks); each row that meets fmt, with fmt's text TOLD by the authors' own Lean function (tested against real Go, not proved from fmt's source: count such statements apart). THE CARD IS WHAT COUNTS. Prove the row's statement (the work); the ties are given (YtnfmcdhllplgmaaDoorTie.lean); close each card by the builder's one call (the guide's Derived/Test/ToyasCard.lean, 'card_holds'). Laid BY PROGRAM, IN A SANDBOX (cutbox-door.mjs). By AI agents, Wed Nov 11 2026. No macro, syntax, notation, axiom, sorry.
-/
import Derived.Test.YtnfmcdhllplgmaaDoorRows
import GoSem.ClaimSeven
namespace Go.Proofs.YtnfmcdhllplgmaaDoor
namespace Rows

/-- THE TIED CARD OF 'burinlaw11.MeasureBitmaps'. -/
def measureBitmapsCard : Claim7 := { stood := { row := measureBitmapsRow, standIns := [], harness := (true, "e59f61b10a1c211d30d558bee14327b4f1517414bdf9017543c183b0cafb4a83"), looks := false }, kinds := [], alts := [], laidByText := true, laidKinds := [.data], laidTests := true, laidLooks := .later }
def MeasureBitmapsCardSaid : Prop := Claim7.holds Tryd.pinned (.plain (OpenSpec.ofChange measureBitmapsSpec)) measureBitmapsCard

/-- THE SECOND FORM's CARD OF 'burinlaw11.MeasureBitmaps'. -/
def measureBitmapsUptoCard : Claim7 := { stood := { row := measureBitmapsUptoRow, standIns := [], harness := (true, "e59f61b10a1c211d30d558bee14327b4f1517414bdf9017543c183b0cafb4a83"), looks := false }, kinds := [], alts := [], laidByText := true, laidKinds := [.data], laidTests := true, laidLooks := .later }
def MeasureBitmapsUptoCardSaid : Prop := Claim7.holds Tryd.pinned (.plain (OpenSpec.upto measureBitmapsSpec)) measureBitmapsUptoCard
end Rows
end Go.Proofs.YtnfmcdhllplgmaaDoor
