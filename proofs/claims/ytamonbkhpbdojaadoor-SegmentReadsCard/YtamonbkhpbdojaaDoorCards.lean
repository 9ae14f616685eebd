/-
  DERIVED. GIVEN WITH THE SEED: THE CARDS: each row of YtamonbkhpbdojaaDoorRows.lean that lists a variable, with what it lists TIED to the program's text (the seventh form; the later family's looks); each row that meets fmt, with fmt's text TOLD by the authors' own Lean function (tested against real Go, not proved from fmt's source: count such statements apart). THE CARD IS WHAT COUNTS. Prove the row's statement (the work); the ties are given (YtamonbkhpbdojaaDoorTie.lean); close each card by the builder's one call (the guide's Derived/Test/ToyasCard.lean, 'card_holds'). Laid BY PROGRAM, IN A SANDBOX (cutbox-door.mjs). By AI agents, Wed Nov 11 2026. No macro, syntax, notation, axiom, sorry.
-/
import Derived.Test.YtamonbkhpbdojaaDoorRows
import GoSem.ClaimSeven
namespace Go.Proofs.YtamonbkhpbdojaaDoor
namespace Rows

/-- THE TIED CARD OF 'burinlaw16.SegmentEncodes'. -/
def segmentEncodesCard : Claim7 := { stood := { row := segmentEncodesRow, standIns := [], harness := (true, "dfe31900b703c63ecb576129a6aaa6c9e3c0800aa85ae247a16202deba55960e"), looks := true }, kinds := [], alts := [], laidByText := true, laidKinds := [.data], laidTests := true, laidLooks := .later }
def SegmentEncodesCardSaid : Prop := Claim7.holds Tryd.pinned (.plain (OpenSpec.ofChange segmentEncodesSpec)) segmentEncodesCard

/-- THE TIED CARD OF 'burinlaw16.SegmentReads'. -/
def segmentReadsCard : Claim7 := { stood := { row := segmentReadsRow, standIns := [], harness := (true, "dfe31900b703c63ecb576129a6aaa6c9e3c0800aa85ae247a16202deba55960e"), looks := true }, kinds := [], alts := [], laidByText := true, laidKinds := [.data], laidTests := true, laidLooks := .later }
def SegmentReadsCardSaid : Prop := Claim7.holds Tryd.pinned (.plain (OpenSpec.ofChange segmentReadsSpec)) segmentReadsCard

/-- THE TIED CARD OF 'burinlaw16.SegmentBack'. -/
def segmentBackCard : Claim7 := { stood := { row := segmentBackRow, standIns := [], harness := (true, "dfe31900b703c63ecb576129a6aaa6c9e3c0800aa85ae247a16202deba55960e"), looks := true }, kinds := [], alts := [], laidByText := true, laidKinds := [.data], laidTests := true, laidLooks := .later }
def SegmentBackCardSaid : Prop := Claim7.holds Tryd.pinned (.plain (OpenSpec.ofChange segmentBackSpec)) segmentBackCard

/-- THE TIED CARD OF 'burinlaw16.SegmentOne'. -/
def segmentOneCard : Claim7 := { stood := { row := segmentOneRow, standIns := [], harness := (true, "dfe31900b703c63ecb576129a6aaa6c9e3c0800aa85ae247a16202deba55960e"), looks := true }, kinds := [], alts := [], laidByText := true, laidKinds := [.data], laidTests := true, laidLooks := .later }
def SegmentOneCardSaid : Prop := Claim7.holds Tryd.pinned (.plain (OpenSpec.ofChange segmentOneSpec)) segmentOneCard

/-- THE SECOND FORM's CARD OF 'burinlaw16.SegmentEncodes'. -/
def segmentEncodesUptoCard : Claim7 := { stood := { row := segmentEncodesUptoRow, standIns := [], harness := (true, "dfe31900b703c63ecb576129a6aaa6c9e3c0800aa85ae247a16202deba55960e"), looks := true }, kinds := [], alts := [], laidByText := true, laidKinds := [.data], laidTests := true, laidLooks := .later }
def SegmentEncodesUptoCardSaid : Prop := Claim7.holds Tryd.pinned (.plain (OpenSpec.upto segmentEncodesSpec)) segmentEncodesUptoCard

/-- THE SECOND FORM's CARD OF 'burinlaw16.SegmentReads'. -/
def segmentReadsUptoCard : Claim7 := { stood := { row := segmentReadsUptoRow, standIns := [], harness := (true, "dfe31900b703c63ecb576129a6aaa6c9e3c0800aa85ae247a16202deba55960e"), looks := true }, kinds := [], alts := [], laidByText := true, laidKinds := [.data], laidTests := true, laidLooks := .later }
def SegmentReadsUptoCardSaid : Prop := Claim7.holds Tryd.pinned (.plain (OpenSpec.upto segmentReadsSpec)) segmentReadsUptoCard

/-- THE SECOND FORM's CARD OF 'burinlaw16.SegmentBack'. -/
def segmentBackUptoCard : Claim7 := { stood := { row := segmentBackUptoRow, standIns := [], harness := (true, "dfe31900b703c63ecb576129a6aaa6c9e3c0800aa85ae247a16202deba55960e"), looks := true }, kinds := [], alts := [], laidByText := true, laidKinds := [.data], laidTests := true, laidLooks := .later }
def SegmentBackUptoCardSaid : Prop := Claim7.holds Tryd.pinned (.plain (OpenSpec.upto segmentBackSpec)) segmentBackUptoCard

/-- THE SECOND FORM's CARD OF 'burinlaw16.SegmentOne'. -/
def segmentOneUptoCard : Claim7 := { stood := { row := segmentOneUptoRow, standIns := [], harness := (true, "dfe31900b703c63ecb576129a6aaa6c9e3c0800aa85ae247a16202deba55960e"), looks := true }, kinds := [], alts := [], laidByText := true, laidKinds := [.data], laidTests := true, laidLooks := .later }
def SegmentOneUptoCardSaid : Prop := Claim7.holds Tryd.pinned (.plain (OpenSpec.upto segmentOneSpec)) segmentOneUptoCard
end Rows
end Go.Proofs.YtamonbkhpbdojaaDoor
