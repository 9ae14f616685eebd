/-
  DERIVED. GIVEN WITH THE SEED: THE CARDS: each row of YtllhekkclhcdbaaDoorRows.lean that lists a variable, with what it lists TIED to the program's text (the seventh form; the later family's looks); each row that meets fmt, with fmt's text TOLD by the authors' own Lean function (tested against real Go, not proved from fmt's source: count such statements apart). THE CARD IS WHAT COUNTS. Prove the row's statement (the work); the ties are given (YtllhekkclhcdbaaDoorTie.lean); close each card by the builder's one call (the guide's Derived/Test/ToyasCard.lean, 'card_holds'). Laid BY PROGRAM, IN A SANDBOX (cutbox-door.mjs). By AI agents, Wed Nov 11 2026. No macro, syntax, notation, axiom, sorry.
-/
import Derived.Test.YtllhekkclhcdbaaDoorRows
import GoSem.ClaimSeven
namespace Go.Proofs.YtllhekkclhcdbaaDoor
namespace Rows

/-- THE TIED CARD OF 'burinlaw5.WholeEncodes'. -/
def wholeEncodesCard : Claim7 := { stood := { row := wholeEncodesRow, standIns := [], harness := (true, "3ecf49612e1dcf01d26d5384d10ef9f25aa65662f9418644abd04531eb1cb397"), looks := false }, kinds := [], alts := [], laidByText := true, laidKinds := [.data], laidTests := true, laidLooks := .later }
def WholeEncodesCardSaid : Prop := Claim7.holds Tryd.pinned (.plain (OpenSpec.ofChange wholeEncodesSpec)) wholeEncodesCard

/-- THE TIED CARD OF 'burinlaw5.WholeReads'. -/
def wholeReadsCard : Claim7 := { stood := { row := wholeReadsRow, standIns := [], harness := (true, "3ecf49612e1dcf01d26d5384d10ef9f25aa65662f9418644abd04531eb1cb397"), looks := false }, kinds := [], alts := [], laidByText := true, laidKinds := [.data], laidTests := true, laidLooks := .later }
def WholeReadsCardSaid : Prop := Claim7.holds Tryd.pinned (.plain (OpenSpec.ofChange wholeReadsSpec)) wholeReadsCard

/-- THE TIED CARD OF 'burinlaw5.WholeMixed'. -/
def wholeMixedCard : Claim7 := { stood := { row := wholeMixedRow, standIns := [], harness := (true, "3ecf49612e1dcf01d26d5384d10ef9f25aa65662f9418644abd04531eb1cb397"), looks := false }, kinds := [], alts := [], laidByText := true, laidKinds := [.data], laidTests := true, laidLooks := .later }
def WholeMixedCardSaid : Prop := Claim7.holds Tryd.pinned (.plain (OpenSpec.ofChange wholeMixedSpec)) wholeMixedCard

/-- THE TIED CARD OF 'burinlaw5.WholeBack'. -/
def wholeBackCard : Claim7 := { stood := { row := wholeBackRow, standIns := [], harness := (true, "3ecf49612e1dcf01d26d5384d10ef9f25aa65662f9418644abd04531eb1cb397"), looks := false }, kinds := [], alts := [], laidByText := true, laidKinds := [.data], laidTests := true, laidLooks := .later }
def WholeBackCardSaid : Prop := Claim7.holds Tryd.pinned (.plain (OpenSpec.ofChange wholeBackSpec)) wholeBackCard

/-- THE TIED CARD OF 'burinlaw5.WholeRows'. -/
def wholeRowsCard : Claim7 := { stood := { row := wholeRowsRow, standIns := [], harness := (true, "3ecf49612e1dcf01d26d5384d10ef9f25aa65662f9418644abd04531eb1cb397"), looks := false }, kinds := [], alts := [], laidByText := true, laidKinds := [.data], laidTests := true, laidLooks := .later }
def WholeRowsCardSaid : Prop := Claim7.holds Tryd.pinned (.plain (OpenSpec.ofChange wholeRowsSpec)) wholeRowsCard

/-- THE TIED CARD OF 'burinlaw5.WholeNone'. -/
def wholeNoneCard : Claim7 := { stood := { row := wholeNoneRow, standIns := [], harness := (true, "3ecf49612e1dcf01d26d5384d10ef9f25aa65662f9418644abd04531eb1cb397"), looks := false }, kinds := [], alts := [], laidByText := true, laidKinds := [.data], laidTests := true, laidLooks := .later }
def WholeNoneCardSaid : Prop := Claim7.holds Tryd.pinned (.plain (OpenSpec.ofChange wholeNoneSpec)) wholeNoneCard

/-- THE SECOND FORM's CARD OF 'burinlaw5.WholeEncodes'. -/
def wholeEncodesUptoCard : Claim7 := { stood := { row := wholeEncodesUptoRow, standIns := [], harness := (true, "3ecf49612e1dcf01d26d5384d10ef9f25aa65662f9418644abd04531eb1cb397"), looks := false }, kinds := [], alts := [], laidByText := true, laidKinds := [.data], laidTests := true, laidLooks := .later }
def WholeEncodesUptoCardSaid : Prop := Claim7.holds Tryd.pinned (.plain (OpenSpec.upto wholeEncodesSpec)) wholeEncodesUptoCard

/-- THE SECOND FORM's CARD OF 'burinlaw5.WholeReads'. -/
def wholeReadsUptoCard : Claim7 := { stood := { row := wholeReadsUptoRow, standIns := [], harness := (true, "3ecf49612e1dcf01d26d5384d10ef9f25aa65662f9418644abd04531eb1cb397"), looks := false }, kinds := [], alts := [], laidByText := true, laidKinds := [.data], laidTests := true, laidLooks := .later }
def WholeReadsUptoCardSaid : Prop := Claim7.holds Tryd.pinned (.plain (OpenSpec.upto wholeReadsSpec)) wholeReadsUptoCard

/-- THE SECOND FORM's CARD OF 'burinlaw5.WholeMixed'. -/
def wholeMixedUptoCard : Claim7 := { stood := { row := wholeMixedUptoRow, standIns := [], harness := (true, "3ecf49612e1dcf01d26d5384d10ef9f25aa65662f9418644abd04531eb1cb397"), looks := false }, kinds := [], alts := [], laidByText := true, laidKinds := [.data], laidTests := true, laidLooks := .later }
def WholeMixedUptoCardSaid : Prop := Claim7.holds Tryd.pinned (.plain (OpenSpec.upto wholeMixedSpec)) wholeMixedUptoCard

/-- THE SECOND FORM's CARD OF 'burinlaw5.WholeBack'. -/
def wholeBackUptoCard : Claim7 := { stood := { row := wholeBackUptoRow, standIns := [], harness := (true, "3ecf49612e1dcf01d26d5384d10ef9f25aa65662f9418644abd04531eb1cb397"), looks := false }, kinds := [], alts := [], laidByText := true, laidKinds := [.data], laidTests := true, laidLooks := .later }
def WholeBackUptoCardSaid : Prop := Claim7.holds Tryd.pinned (.plain (OpenSpec.upto wholeBackSpec)) wholeBackUptoCard

/-- THE SECOND FORM's CARD OF 'burinlaw5.WholeRows'. -/
def wholeRowsUptoCard : Claim7 := { stood := { row := wholeRowsUptoRow, standIns := [], harness := (true, "3ecf49612e1dcf01d26d5384d10ef9f25aa65662f9418644abd04531eb1cb397"), looks := false }, kinds := [], alts := [], laidByText := true, laidKinds := [.data], laidTests := true, laidLooks := .later }
def WholeRowsUptoCardSaid : Prop := Claim7.holds Tryd.pinned (.plain (OpenSpec.upto wholeRowsSpec)) wholeRowsUptoCard

/-- THE SECOND FORM's CARD OF 'burinlaw5.WholeNone'. -/
def wholeNoneUptoCard : Claim7 := { stood := { row := wholeNoneUptoRow, standIns := [], harness := (true, "3ecf49612e1dcf01d26d5384d10ef9f25aa65662f9418644abd04531eb1cb397"), looks := false }, kinds := [], alts := [], laidByText := true, laidKinds := [.data], laidTests := true, laidLooks := .later }
def WholeNoneUptoCardSaid : Prop := Claim7.holds Tryd.pinned (.plain (OpenSpec.upto wholeNoneSpec)) wholeNoneUptoCard
end Rows
end Go.Proofs.YtllhekkclhcdbaaDoor
