/-
  No cell of these rows narrows 'for every input' (looked for: loops, veiled, ifaces, maps, wideKeys, modest, calm, conditions, laid).
  DERIVED. THE GIVEN ROWS OF THIS SEAT. 6 by the template 'for every input the law returns true; each argument reads behind the call as it read before'; 0 by the template 'total and deterministic' (their statements: YtmfpoabhmpljgaaTotals.lean).
  GIVEN WITH THE SEED: the statements are not yours to turn. If you find one false, say at which input.
  Laid BY PROGRAM, IN A SANDBOX (cutbox-rows.mjs): the forced cells as the released guide's own fill.sh prints them over the translation 5da50310a712bc56… (all of the seat's roots in one cut). By AI agents, Wed Nov 11 2026. No macro, syntax, notation, axiom, sorry.
-/
import Derived.Test.YtmfpoabhmpljgaaChecked
import GoSem.Claim
import GoSem.ClaimJoined
import GoSem.ClaimMapViews
import Derived.JoinedTies
import Derived.KernelRfl
namespace Go.Proofs.Ytmfpoabhmpljgaa
/- THE CELL 'sum', in the pinned program and in every row, IS THE sha256 OF THE DUMP (.gsa) THAT YtmfpoabhmpljgaaProg.lean LOADS. Nothing in Lean hashes anything: it is a label: what it is worth is what the hold of that sum in a sandbox is worth. -/
noncomputable def Try.pinned : Pinned := { name := "ytmfpoabhmpljgaa", sum := "5da50310a712bc56b0cee6e16a1ec03ce0f88ebfc95617c965f5cc70702a9e86", checked := Try.checked }
namespace Rows
def none {H : Type} : Left H := { results := [], args := [] }

/-- 'burinlaw8.RefineEncodes': WHATEVER THE INPUT: true; the input reads as it did. -/
def refineEncodesSpec : ChangeSpec := { name := "refineEncodes", fn := fun _ => fun
  | [d] => { results := [.lit (.bool true)], args := [d] }
  | _ => none }
def refineEncodesRow : OpenClaim := { program := "ytmfpoabhmpljgaa", sum := "5da50310a712bc56b0cee6e16a1ec03ce0f88ebfc95617c965f5cc70702a9e86", func := "burin/burinlaw8.RefineEncodes", spec := "refineEncodes", unfollowed := true, recurses := true, apart := false }
def RefineEncodesSaid : Prop := refineEncodesRow.holds Try.pinned (OpenSpec.ofChange refineEncodesSpec)

/-- ITS FALSE NEIGHBOUR: 'it returns false'. Refute it at one input. -/
def refineEncodesWrong : ChangeSpec := { name := "refineEncodes", fn := fun _ => fun
  | [d] => { results := [.lit (.bool false)], args := [d] }
  | _ => none }
def RefineEncodesWrongFalsely : Prop := refineEncodesRow.holds Try.pinned (OpenSpec.ofChange refineEncodesWrong)

/-- 'burinlaw8.RefineReads': WHATEVER THE INPUT: true; the input reads as it did. -/
def refineReadsSpec : ChangeSpec := { name := "refineReads", fn := fun _ => fun
  | [d] => { results := [.lit (.bool true)], args := [d] }
  | _ => none }
def refineReadsRow : OpenClaim := { program := "ytmfpoabhmpljgaa", sum := "5da50310a712bc56b0cee6e16a1ec03ce0f88ebfc95617c965f5cc70702a9e86", func := "burin/burinlaw8.RefineReads", spec := "refineReads", unfollowed := true, recurses := true, apart := false }
def RefineReadsSaid : Prop := refineReadsRow.holds Try.pinned (OpenSpec.ofChange refineReadsSpec)

/-- ITS FALSE NEIGHBOUR: 'it returns false'. Refute it at one input. -/
def refineReadsWrong : ChangeSpec := { name := "refineReads", fn := fun _ => fun
  | [d] => { results := [.lit (.bool false)], args := [d] }
  | _ => none }
def RefineReadsWrongFalsely : Prop := refineReadsRow.holds Try.pinned (OpenSpec.ofChange refineReadsWrong)

/-- 'burinlaw8.RefineBack': WHATEVER THE INPUT: true; the input reads as it did. -/
def refineBackSpec : ChangeSpec := { name := "refineBack", fn := fun _ => fun
  | [d] => { results := [.lit (.bool true)], args := [d] }
  | _ => none }
def refineBackRow : OpenClaim := { program := "ytmfpoabhmpljgaa", sum := "5da50310a712bc56b0cee6e16a1ec03ce0f88ebfc95617c965f5cc70702a9e86", func := "burin/burinlaw8.RefineBack", spec := "refineBack", unfollowed := true, recurses := true, apart := false }
def RefineBackSaid : Prop := refineBackRow.holds Try.pinned (OpenSpec.ofChange refineBackSpec)

/-- ITS FALSE NEIGHBOUR: 'it returns false'. Refute it at one input. -/
def refineBackWrong : ChangeSpec := { name := "refineBack", fn := fun _ => fun
  | [d] => { results := [.lit (.bool false)], args := [d] }
  | _ => none }
def RefineBackWrongFalsely : Prop := refineBackRow.holds Try.pinned (OpenSpec.ofChange refineBackWrong)

/-- 'burinlaw8.RefineFar': WHATEVER THE INPUT: true; the input reads as it did. -/
def refineFarSpec : ChangeSpec := { name := "refineFar", fn := fun _ => fun
  | [d] => { results := [.lit (.bool true)], args := [d] }
  | _ => none }
def refineFarRow : OpenClaim := { program := "ytmfpoabhmpljgaa", sum := "5da50310a712bc56b0cee6e16a1ec03ce0f88ebfc95617c965f5cc70702a9e86", func := "burin/burinlaw8.RefineFar", spec := "refineFar", unfollowed := true, recurses := true, apart := false }
def RefineFarSaid : Prop := refineFarRow.holds Try.pinned (OpenSpec.ofChange refineFarSpec)

/-- ITS FALSE NEIGHBOUR: 'it returns false'. Refute it at one input. -/
def refineFarWrong : ChangeSpec := { name := "refineFar", fn := fun _ => fun
  | [d] => { results := [.lit (.bool false)], args := [d] }
  | _ => none }
def RefineFarWrongFalsely : Prop := refineFarRow.holds Try.pinned (OpenSpec.ofChange refineFarWrong)

/-- 'burinlaw8.RefineRow': WHATEVER THE INPUT: true; the input reads as it did. -/
def refineRowSpec : ChangeSpec := { name := "refineRow", fn := fun _ => fun
  | [d] => { results := [.lit (.bool true)], args := [d] }
  | _ => none }
def refineRowRow : OpenClaim := { program := "ytmfpoabhmpljgaa", sum := "5da50310a712bc56b0cee6e16a1ec03ce0f88ebfc95617c965f5cc70702a9e86", func := "burin/burinlaw8.RefineRow", spec := "refineRow", unfollowed := true, recurses := true, apart := false }
def RefineRowSaid : Prop := refineRowRow.holds Try.pinned (OpenSpec.ofChange refineRowSpec)

/-- ITS FALSE NEIGHBOUR: 'it returns false'. Refute it at one input. -/
def refineRowWrong : ChangeSpec := { name := "refineRow", fn := fun _ => fun
  | [d] => { results := [.lit (.bool false)], args := [d] }
  | _ => none }
def RefineRowWrongFalsely : Prop := refineRowRow.holds Try.pinned (OpenSpec.ofChange refineRowWrong)

/-- 'burinlaw8.RefineTop': WHATEVER THE INPUT: true; the input reads as it did. -/
def refineTopSpec : ChangeSpec := { name := "refineTop", fn := fun _ => fun
  | [d] => { results := [.lit (.bool true)], args := [d] }
  | _ => none }
def refineTopRow : OpenClaim := { program := "ytmfpoabhmpljgaa", sum := "5da50310a712bc56b0cee6e16a1ec03ce0f88ebfc95617c965f5cc70702a9e86", func := "burin/burinlaw8.RefineTop", spec := "refineTop", unfollowed := true, recurses := true, apart := false }
def RefineTopSaid : Prop := refineTopRow.holds Try.pinned (OpenSpec.ofChange refineTopSpec)

/-- ITS FALSE NEIGHBOUR: 'it returns false'. Refute it at one input. -/
def refineTopWrong : ChangeSpec := { name := "refineTop", fn := fun _ => fun
  | [d] => { results := [.lit (.bool false)], args := [d] }
  | _ => none }
def RefineTopWrongFalsely : Prop := refineTopRow.holds Try.pinned (OpenSpec.ofChange refineTopWrong)

/- THE SECOND FORM. 'bulk': how many values and letters a reading holds, each counted each time it is reached (what is shared counts as often as it is met; a slice's spare places count too). A statement '..UptoSaid' is the law's where the arguments, and the package variables that the reading takes, are together of bulk at most 1048576: NARROWER than '..Said'. Prove '..Said' where nothing that the law and all that it calls make is longer than what came in: it says more and counts as full. Else prove '..UptoSaid'. A law counts once. -/
mutual
def uptoBulk {H : Type} : DataW H → Nat
  | .lit (.string bytes) => bytes.length + 1
  | .lit _ => 1
  | .nil => 1
  | .ptr d => uptoBulk d + 1
  | .slice elems spare => uptoBulkAll elems + uptoBulkAll spare + 1
  | .agg parts => uptoBulkAll parts + 1
  | .iface _ d => uptoBulk d + 1
  | .map entries => uptoBulkEntries entries + 1
  | .held _ => 1
def uptoBulkAll {H : Type} : List (DataW H) → Nat
  | [] => 0
  | d :: r => uptoBulk d + uptoBulkAll r
def uptoBulkEntries {H : Type} : List (Lit × DataW H) → Nat
  | [] => 0
  | x :: r => uptoBulkEntry x + uptoBulkEntries r
def uptoBulkEntry {H : Type} : Lit × DataW H → Nat
  | (.string bytes, d) => bytes.length + uptoBulk d + 1
  | (_, d) => uptoBulk d + 1
 end
def uptoSmall : (H : Type) → List (DataW H) → Bool := fun _ ds => decide (uptoBulkAll ds ≤ 1048576)
def OpenSpec.upto (s : _root_.Go.ChangeSpec) : _root_.Go.OpenSpec := { _root_.Go.OpenSpec.ofChange s with cond := some uptoSmall }

/-- 'burinlaw8.RefineEncodes', WHERE WHAT IT READS IS OF BULK AT MOST 1048576: true; the input reads as it did. -/
def refineEncodesUptoRow : OpenClaim := { program := "ytmfpoabhmpljgaa", sum := "5da50310a712bc56b0cee6e16a1ec03ce0f88ebfc95617c965f5cc70702a9e86", func := "burin/burinlaw8.RefineEncodes", spec := "refineEncodes", unfollowed := true, recurses := true, apart := false, narrowed := true }
def RefineEncodesUptoSaid : Prop := refineEncodesUptoRow.holds Try.pinned (OpenSpec.upto refineEncodesSpec)

/-- 'burinlaw8.RefineReads', WHERE WHAT IT READS IS OF BULK AT MOST 1048576: true; the input reads as it did. -/
def refineReadsUptoRow : OpenClaim := { program := "ytmfpoabhmpljgaa", sum := "5da50310a712bc56b0cee6e16a1ec03ce0f88ebfc95617c965f5cc70702a9e86", func := "burin/burinlaw8.RefineReads", spec := "refineReads", unfollowed := true, recurses := true, apart := false, narrowed := true }
def RefineReadsUptoSaid : Prop := refineReadsUptoRow.holds Try.pinned (OpenSpec.upto refineReadsSpec)

/-- 'burinlaw8.RefineBack', WHERE WHAT IT READS IS OF BULK AT MOST 1048576: true; the input reads as it did. -/
def refineBackUptoRow : OpenClaim := { program := "ytmfpoabhmpljgaa", sum := "5da50310a712bc56b0cee6e16a1ec03ce0f88ebfc95617c965f5cc70702a9e86", func := "burin/burinlaw8.RefineBack", spec := "refineBack", unfollowed := true, recurses := true, apart := false, narrowed := true }
def RefineBackUptoSaid : Prop := refineBackUptoRow.holds Try.pinned (OpenSpec.upto refineBackSpec)

/-- 'burinlaw8.RefineFar', WHERE WHAT IT READS IS OF BULK AT MOST 1048576: true; the input reads as it did. -/
def refineFarUptoRow : OpenClaim := { program := "ytmfpoabhmpljgaa", sum := "5da50310a712bc56b0cee6e16a1ec03ce0f88ebfc95617c965f5cc70702a9e86", func := "burin/burinlaw8.RefineFar", spec := "refineFar", unfollowed := true, recurses := true, apart := false, narrowed := true }
def RefineFarUptoSaid : Prop := refineFarUptoRow.holds Try.pinned (OpenSpec.upto refineFarSpec)

/-- 'burinlaw8.RefineRow', WHERE WHAT IT READS IS OF BULK AT MOST 1048576: true; the input reads as it did. -/
def refineRowUptoRow : OpenClaim := { program := "ytmfpoabhmpljgaa", sum := "5da50310a712bc56b0cee6e16a1ec03ce0f88ebfc95617c965f5cc70702a9e86", func := "burin/burinlaw8.RefineRow", spec := "refineRow", unfollowed := true, recurses := true, apart := false, narrowed := true }
def RefineRowUptoSaid : Prop := refineRowUptoRow.holds Try.pinned (OpenSpec.upto refineRowSpec)

/-- 'burinlaw8.RefineTop', WHERE WHAT IT READS IS OF BULK AT MOST 1048576: true; the input reads as it did. -/
def refineTopUptoRow : OpenClaim := { program := "ytmfpoabhmpljgaa", sum := "5da50310a712bc56b0cee6e16a1ec03ce0f88ebfc95617c965f5cc70702a9e86", func := "burin/burinlaw8.RefineTop", spec := "refineTop", unfollowed := true, recurses := true, apart := false, narrowed := true }
def RefineTopUptoSaid : Prop := refineTopUptoRow.holds Try.pinned (OpenSpec.upto refineTopSpec)

end Rows
end Go.Proofs.Ytmfpoabhmpljgaa
