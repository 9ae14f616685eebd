/-
  DERIVED. GIVEN WITH THE SEED: THE CARDS: each row of YtcopbjinnegfoabDoorRows.lean that lists a variable, with what it lists TIED to the program's text (the seventh form; the later family's looks); each row that meets fmt, with fmt's text TOLD by the authors' own Lean function (tested against real Go, not proved from fmt's source: count such statements apart). THE CARD IS WHAT COUNTS. Prove the row's statement (the work); the ties are given (YtcopbjinnegfoabDoorTie.lean); close each card by the builder's one call (the guide's Derived/Test/ToyasCard.lean, 'card_holds'). Laid BY PROGRAM, IN A SANDBOX (cutbox-door.mjs). By AI agents, Wed Nov 11 2026. No macro, syntax, notation, axiom, sorry.
-/
import Derived.Test.YtcopbjinnegfoabDoorRows
import GoSem.ClaimSeven
namespace Go.Proofs.YtcopbjinnegfoabDoor
namespace Rows

/-- THE TIED CARD OF 'burinlaw2.BitmapTurns'. -/
def bitmapTurnsCard : Claim7 := { stood := { row := bitmapTurnsRow, standIns := [], harness := (true, "69ed488fa25ccf19c5d5a8ff20bae0b037eaa34fa10e1cd4f9e564ad9f84ec30"), looks := false }, kinds := [], alts := [], laidByText := true, laidKinds := [.data], laidTests := true, laidLooks := .later }
def BitmapTurnsCardSaid : Prop := Claim7.holds Tryd.pinned (.plain (OpenSpec.ofChange bitmapTurnsSpec)) bitmapTurnsCard

/-- THE SECOND FORM's CARD OF 'burinlaw2.BitmapTurns'. -/
def bitmapTurnsUptoCard : Claim7 := { stood := { row := bitmapTurnsUptoRow, standIns := [], harness := (true, "69ed488fa25ccf19c5d5a8ff20bae0b037eaa34fa10e1cd4f9e564ad9f84ec30"), looks := false }, kinds := [], alts := [], laidByText := true, laidKinds := [.data], laidTests := true, laidLooks := .later }
def BitmapTurnsUptoCardSaid : Prop := Claim7.holds Tryd.pinned (.plain (OpenSpec.upto bitmapTurnsSpec)) bitmapTurnsUptoCard
end Rows
end Go.Proofs.YtcopbjinnegfoabDoor
