/-
  No cell of these rows narrows 'for every input' (looked for: loops, veiled, ifaces, maps, wideKeys, modest, calm, conditions, laid).
  DERIVED. THE GIVEN ROWS OF THIS SEAT. 5 by the template 'for every input the law returns true; each argument reads behind the call as it read before'; 0 by the template 'total and deterministic' (their statements: YthliacfkmpijmaaTotals.lean).
  GIVEN WITH THE SEED: the statements are not yours to turn. If you find one false, say at which input.
  Laid BY PROGRAM, IN A SANDBOX (cutbox-rows.mjs): the forced cells as the released guide's own fill.sh prints them over the translation d7a6c621eccf81ad… (all of the seat's roots in one cut). By AI agents, Wed Nov 11 2026. No macro, syntax, notation, axiom, sorry.
-/
import Derived.Test.YthliacfkmpijmaaChecked
import GoSem.Claim
import GoSem.ClaimJoined
import GoSem.ClaimMapViews
import Derived.JoinedTies
import Derived.KernelRfl
namespace Go.Proofs.Ythliacfkmpijmaa
/- THE CELL 'sum', in the pinned program and in every row, IS THE sha256 OF THE DUMP (.gsa) THAT YthliacfkmpijmaaProg.lean LOADS. Nothing in Lean hashes anything: it is a label: what it is worth is what the hold of that sum in a sandbox is worth. -/
noncomputable def Try.pinned : Pinned := { name := "ythliacfkmpijmaa", sum := "d7a6c621eccf81ad2b648fb6790cda0800a604b7358946693785c10c307f7d90", checked := Try.checked }
namespace Rows
def none {H : Type} : Left H := { results := [], args := [] }

/-- 'burinlaw9.RunsOf': WHATEVER THE INPUT: true; the input reads as it did. -/
def runsOfSpec : ChangeSpec := { name := "runsOf", fn := fun _ => fun
  | [d] => { results := [.lit (.bool true)], args := [d] }
  | _ => none }
def runsOfRow : OpenClaim := { program := "ythliacfkmpijmaa", sum := "d7a6c621eccf81ad2b648fb6790cda0800a604b7358946693785c10c307f7d90", func := "burin/burinlaw9.RunsOf", spec := "runsOf", apart := false }
def RunsOfSaid : Prop := runsOfRow.holds Try.pinned (OpenSpec.ofChange runsOfSpec)

/-- ITS FALSE NEIGHBOUR: 'it returns false'. Refute it at one input. -/
def runsOfWrong : ChangeSpec := { name := "runsOf", fn := fun _ => fun
  | [d] => { results := [.lit (.bool false)], args := [d] }
  | _ => none }
def RunsOfWrongFalsely : Prop := runsOfRow.holds Try.pinned (OpenSpec.ofChange runsOfWrong)

/-- 'burinlaw9.RunsBack': WHATEVER THE INPUT: true; the input reads as it did. -/
def runsBackSpec : ChangeSpec := { name := "runsBack", fn := fun _ => fun
  | [d] => { results := [.lit (.bool true)], args := [d] }
  | _ => none }
def runsBackRow : OpenClaim := { program := "ythliacfkmpijmaa", sum := "d7a6c621eccf81ad2b648fb6790cda0800a604b7358946693785c10c307f7d90", func := "burin/burinlaw9.RunsBack", spec := "runsBack", apart := false }
def RunsBackSaid : Prop := runsBackRow.holds Try.pinned (OpenSpec.ofChange runsBackSpec)

/-- ITS FALSE NEIGHBOUR: 'it returns false'. Refute it at one input. -/
def runsBackWrong : ChangeSpec := { name := "runsBack", fn := fun _ => fun
  | [d] => { results := [.lit (.bool false)], args := [d] }
  | _ => none }
def RunsBackWrongFalsely : Prop := runsBackRow.holds Try.pinned (OpenSpec.ofChange runsBackWrong)

/-- 'burinlaw9.RunsRound': WHATEVER THE INPUT: true; the input reads as it did. -/
def runsRoundSpec : ChangeSpec := { name := "runsRound", fn := fun _ => fun
  | [d] => { results := [.lit (.bool true)], args := [d] }
  | _ => none }
def runsRoundRow : OpenClaim := { program := "ythliacfkmpijmaa", sum := "d7a6c621eccf81ad2b648fb6790cda0800a604b7358946693785c10c307f7d90", func := "burin/burinlaw9.RunsRound", spec := "runsRound", apart := false }
def RunsRoundSaid : Prop := runsRoundRow.holds Try.pinned (OpenSpec.ofChange runsRoundSpec)

/-- ITS FALSE NEIGHBOUR: 'it returns false'. Refute it at one input. -/
def runsRoundWrong : ChangeSpec := { name := "runsRound", fn := fun _ => fun
  | [d] => { results := [.lit (.bool false)], args := [d] }
  | _ => none }
def RunsRoundWrongFalsely : Prop := runsRoundRow.holds Try.pinned (OpenSpec.ofChange runsRoundWrong)

/-- 'burinlaw9.RunsMirrored': WHATEVER THE INPUT: true; the input reads as it did. -/
def runsMirroredSpec : ChangeSpec := { name := "runsMirrored", fn := fun _ => fun
  | [d] => { results := [.lit (.bool true)], args := [d] }
  | _ => none }
def runsMirroredRow : OpenClaim := { program := "ythliacfkmpijmaa", sum := "d7a6c621eccf81ad2b648fb6790cda0800a604b7358946693785c10c307f7d90", func := "burin/burinlaw9.RunsMirrored", spec := "runsMirrored", apart := false }
def RunsMirroredSaid : Prop := runsMirroredRow.holds Try.pinned (OpenSpec.ofChange runsMirroredSpec)

/-- ITS FALSE NEIGHBOUR: 'it returns false'. Refute it at one input. -/
def runsMirroredWrong : ChangeSpec := { name := "runsMirrored", fn := fun _ => fun
  | [d] => { results := [.lit (.bool false)], args := [d] }
  | _ => none }
def RunsMirroredWrongFalsely : Prop := runsMirroredRow.holds Try.pinned (OpenSpec.ofChange runsMirroredWrong)

/-- 'burinlaw9.RunsTouch': WHATEVER THE INPUT: true; the input reads as it did. -/
def runsTouchSpec : ChangeSpec := { name := "runsTouch", fn := fun _ => fun
  | [d] => { results := [.lit (.bool true)], args := [d] }
  | _ => none }
def runsTouchRow : OpenClaim := { program := "ythliacfkmpijmaa", sum := "d7a6c621eccf81ad2b648fb6790cda0800a604b7358946693785c10c307f7d90", func := "burin/burinlaw9.RunsTouch", spec := "runsTouch", apart := false }
def RunsTouchSaid : Prop := runsTouchRow.holds Try.pinned (OpenSpec.ofChange runsTouchSpec)

/-- ITS FALSE NEIGHBOUR: 'it returns false'. Refute it at one input. -/
def runsTouchWrong : ChangeSpec := { name := "runsTouch", fn := fun _ => fun
  | [d] => { results := [.lit (.bool false)], args := [d] }
  | _ => none }
def RunsTouchWrongFalsely : Prop := runsTouchRow.holds Try.pinned (OpenSpec.ofChange runsTouchWrong)

/- THE SECOND FORM. 'bulk': how many values and letters a reading holds, each counted each time it is reached (what is shared counts as often as it is met; a slice's spare places count too). A statement '..UptoSaid' is the law's where the arguments, and the package variables that the reading takes, are together of bulk at most 1048576: NARROWER than '..Said'. Prove '..Said' where nothing that the law and all that it calls make is longer than what came in: it says more and counts as full. Else prove '..UptoSaid'. A law counts once. -/
mutual
def uptoBulk {H : Type} : DataW H → Nat
  | .lit (.string bytes) => bytes.length + 1
  | .lit _ => 1
  | .nil => 1
  | .ptr d => uptoBulk d + 1
  | .slice elems spare => uptoBulkAll elems + uptoBulkAll spare + 1
  | .agg parts => uptoBulkAll parts + 1
  | .iface _ d => uptoBulk d + 1
  | .map entries => uptoBulkEntries entries + 1
  | .held _ => 1
def uptoBulkAll {H : Type} : List (DataW H) → Nat
  | [] => 0
  | d :: r => uptoBulk d + uptoBulkAll r
def uptoBulkEntries {H : Type} : List (Lit × DataW H) → Nat
  | [] => 0
  | x :: r => uptoBulkEntry x + uptoBulkEntries r
def uptoBulkEntry {H : Type} : Lit × DataW H → Nat
  | (.string bytes, d) => bytes.length + uptoBulk d + 1
  | (_, d) => uptoBulk d + 1
 end
def uptoSmall : (H : Type) → List (DataW H) → Bool := fun _ ds => decide (uptoBulkAll ds ≤ 1048576)
def OpenSpec.upto (s : _root_.Go.ChangeSpec) : _root_.Go.OpenSpec := { _root_.Go.OpenSpec.ofChange s with cond := some uptoSmall }

/-- 'burinlaw9.RunsOf', WHERE WHAT IT READS IS OF BULK AT MOST 1048576: true; the input reads as it did. -/
def runsOfUptoRow : OpenClaim := { program := "ythliacfkmpijmaa", sum := "d7a6c621eccf81ad2b648fb6790cda0800a604b7358946693785c10c307f7d90", func := "burin/burinlaw9.RunsOf", spec := "runsOf", apart := false, narrowed := true }
def RunsOfUptoSaid : Prop := runsOfUptoRow.holds Try.pinned (OpenSpec.upto runsOfSpec)

/-- 'burinlaw9.RunsBack', WHERE WHAT IT READS IS OF BULK AT MOST 1048576: true; the input reads as it did. -/
def runsBackUptoRow : OpenClaim := { program := "ythliacfkmpijmaa", sum := "d7a6c621eccf81ad2b648fb6790cda0800a604b7358946693785c10c307f7d90", func := "burin/burinlaw9.RunsBack", spec := "runsBack", apart := false, narrowed := true }
def RunsBackUptoSaid : Prop := runsBackUptoRow.holds Try.pinned (OpenSpec.upto runsBackSpec)

/-- 'burinlaw9.RunsRound', WHERE WHAT IT READS IS OF BULK AT MOST 1048576: true; the input reads as it did. -/
def runsRoundUptoRow : OpenClaim := { program := "ythliacfkmpijmaa", sum := "d7a6c621eccf81ad2b648fb6790cda0800a604b7358946693785c10c307f7d90", func := "burin/burinlaw9.RunsRound", spec := "runsRound", apart := false, narrowed := true }
def RunsRoundUptoSaid : Prop := runsRoundUptoRow.holds Try.pinned (OpenSpec.upto runsRoundSpec)

/-- 'burinlaw9.RunsMirrored', WHERE WHAT IT READS IS OF BULK AT MOST 1048576: true; the input reads as it did. -/
def runsMirroredUptoRow : OpenClaim := { program := "ythliacfkmpijmaa", sum := "d7a6c621eccf81ad2b648fb6790cda0800a604b7358946693785c10c307f7d90", func := "burin/burinlaw9.RunsMirrored", spec := "runsMirrored", apart := false, narrowed := true }
def RunsMirroredUptoSaid : Prop := runsMirroredUptoRow.holds Try.pinned (OpenSpec.upto runsMirroredSpec)

/-- 'burinlaw9.RunsTouch', WHERE WHAT IT READS IS OF BULK AT MOST 1048576: true; the input reads as it did. -/
def runsTouchUptoRow : OpenClaim := { program := "ythliacfkmpijmaa", sum := "d7a6c621eccf81ad2b648fb6790cda0800a604b7358946693785c10c307f7d90", func := "burin/burinlaw9.RunsTouch", spec := "runsTouch", apart := false, narrowed := true }
def RunsTouchUptoSaid : Prop := runsTouchUptoRow.holds Try.pinned (OpenSpec.upto runsTouchSpec)

end Rows
end Go.Proofs.Ythliacfkmpijmaa
