/-
  DERIVED. GIVEN WITH THE SEED: THE CARDS: each row of YtflhbmapikdmhaaDoorRows.lean that lists a variable, with what it lists TIED to the program's text (the seventh form; the later family's looks); each row that meets fmt, with fmt's text TOLD by the authors' own Lean function (tested against real Go, not proved from fmt's source: count such statements apart). THE CARD IS WHAT COUNTS. Prove the row's statement (the work); the ties are given (YtflhbmapikdmhaaDoorTie.lean); close each card by the builder's one call (the guide's Derived/Test/ToyasCard.lean, 'card_holds'). Laid BY PROGRAM, IN A SANDBOX (cutbox-door.mjs). By AI agents, Wed Nov 11 2026. No macro, syntax, notation, axiom, sorry.
-/
import Derived.Test.YtflhbmapikdmhaaDoorRows
import GoSem.ClaimSeven
namespace Go.Proofs.YtflhbmapikdmhaaDoor
namespace Rows

/-- THE TIED CARD OF 'burinlaw2.BitmapExact'. -/
def bitmapExactCard : Claim7 := { stood := { row := bitmapExactRow, standIns := [], harness := (true, "b484504ef47c540cf59577f36f1fb7fa17ce29149d0228ef42d448681e685091"), looks := false }, kinds := [], alts := [], laidByText := true, laidKinds := [.data], laidTests := true, laidLooks := .later }
def BitmapExactCardSaid : Prop := Claim7.holds Tryd.pinned (.plain (OpenSpec.ofChange bitmapExactSpec)) bitmapExactCard

/-- THE SECOND FORM's CARD OF 'burinlaw2.BitmapExact'. -/
def bitmapExactUptoCard : Claim7 := { stood := { row := bitmapExactUptoRow, standIns := [], harness := (true, "b484504ef47c540cf59577f36f1fb7fa17ce29149d0228ef42d448681e685091"), looks := false }, kinds := [], alts := [], laidByText := true, laidKinds := [.data], laidTests := true, laidLooks := .later }
def BitmapExactUptoCardSaid : Prop := Claim7.holds Tryd.pinned (.plain (OpenSpec.upto bitmapExactSpec)) bitmapExactUptoCard
end Rows
end Go.Proofs.YtflhbmapikdmhaaDoor
