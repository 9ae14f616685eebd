/-
  No cell of these rows narrows 'for every input' (looked for: loops, veiled, ifaces, maps, wideKeys, modest, calm, conditions, laid).
  DERIVED. THE GIVEN ROWS OF THIS SEAT. 3 by the template 'for every input the law returns true; each argument reads behind the call as it read before'; 0 by the template 'total and deterministic' (their statements: YtnfmcdhllplgmabTotals.lean).
  GIVEN WITH THE SEED: the statements are not yours to turn. If you find one false, say at which input.
  Laid BY PROGRAM, IN A SANDBOX (cutbox-rows.mjs): the forced cells as the released guide's own fill.sh prints them over the translation ccda49adf84d37f0… (all of the seat's roots in one cut). By AI agents, Wed Nov 11 2026. No macro, syntax, notation, axiom, sorry.
-/
import Derived.Test.YtnfmcdhllplgmabChecked
import GoSem.Claim
import GoSem.ClaimJoined
import GoSem.ClaimMapViews
import Derived.JoinedTies
import Derived.KernelRfl
namespace Go.Proofs.Ytnfmcdhllplgmab
/- THE CELL 'sum', in the pinned program and in every row, IS THE sha256 OF THE DUMP (.gsa) THAT YtnfmcdhllplgmabProg.lean LOADS. Nothing in Lean hashes anything: it is a label: what it is worth is what the hold of that sum in a sandbox is worth. -/
noncomputable def Try.pinned : Pinned := { name := "ytnfmcdhllplgmab", sum := "ccda49adf84d37f08df678be5838f8ae880caa4ca7df53b4616b721665f711cc", checked := Try.checked }
namespace Rows
def none {H : Type} : Left H := { results := [], args := [] }

/-- 'burinlaw11.MeasureWithin': WHATEVER THE INPUT: true; the input reads as it did. -/
def measureWithinSpec : ChangeSpec := { name := "measureWithin", fn := fun _ => fun
  | [d] => { results := [.lit (.bool true)], args := [d] }
  | _ => none }
def measureWithinRow : OpenClaim := { program := "ytnfmcdhllplgmab", sum := "ccda49adf84d37f08df678be5838f8ae880caa4ca7df53b4616b721665f711cc", func := "burin/burinlaw11.MeasureWithin", spec := "measureWithin", inPlace := ["math.Float64frombits", "math.Float64bits"], apart := false }
def MeasureWithinSaid : Prop := measureWithinRow.holds Try.pinned (OpenSpec.ofChange measureWithinSpec)

/-- ITS FALSE NEIGHBOUR: 'it returns false'. Refute it at one input. -/
def measureWithinWrong : ChangeSpec := { name := "measureWithin", fn := fun _ => fun
  | [d] => { results := [.lit (.bool false)], args := [d] }
  | _ => none }
def MeasureWithinWrongFalsely : Prop := measureWithinRow.holds Try.pinned (OpenSpec.ofChange measureWithinWrong)

/-- 'burinlaw11.MeasureMeans': WHATEVER THE INPUT: true; the input reads as it did. -/
def measureMeansSpec : ChangeSpec := { name := "measureMeans", fn := fun _ => fun
  | [d] => { results := [.lit (.bool true)], args := [d] }
  | _ => none }
def measureMeansRow : OpenClaim := { program := "ytnfmcdhllplgmab", sum := "ccda49adf84d37f08df678be5838f8ae880caa4ca7df53b4616b721665f711cc", func := "burin/burinlaw11.MeasureMeans", spec := "measureMeans", inPlace := ["math.Float64bits", "math.Float64frombits", "internal/reflectlite.ValueOf", "internal/reflectlite.Swapper", "(internal/reflectlite.Value).Len"], unfollowed := true, recurses := true, apart := false }
def MeasureMeansSaid : Prop := measureMeansRow.holds Try.pinned (OpenSpec.ofChange measureMeansSpec)

/-- ITS FALSE NEIGHBOUR: 'it returns false'. Refute it at one input. -/
def measureMeansWrong : ChangeSpec := { name := "measureMeans", fn := fun _ => fun
  | [d] => { results := [.lit (.bool false)], args := [d] }
  | _ => none }
def MeasureMeansWrongFalsely : Prop := measureMeansRow.holds Try.pinned (OpenSpec.ofChange measureMeansWrong)

/-- 'burinlaw11.MeasureCounts': WHATEVER THE INPUT: true; the input reads as it did. -/
def measureCountsSpec : ChangeSpec := { name := "measureCounts", fn := fun _ => fun
  | [d] => { results := [.lit (.bool true)], args := [d] }
  | _ => none }
def measureCountsRow : OpenClaim := { program := "ytnfmcdhllplgmab", sum := "ccda49adf84d37f08df678be5838f8ae880caa4ca7df53b4616b721665f711cc", func := "burin/burinlaw11.MeasureCounts", spec := "measureCounts", inPlace := ["math.Float64bits", "math.Float64frombits", "internal/reflectlite.ValueOf", "internal/reflectlite.Swapper", "(internal/reflectlite.Value).Len"], unfollowed := true, recurses := true, apart := false }
def MeasureCountsSaid : Prop := measureCountsRow.holds Try.pinned (OpenSpec.ofChange measureCountsSpec)

/-- ITS FALSE NEIGHBOUR: 'it returns false'. Refute it at one input. -/
def measureCountsWrong : ChangeSpec := { name := "measureCounts", fn := fun _ => fun
  | [d] => { results := [.lit (.bool false)], args := [d] }
  | _ => none }
def MeasureCountsWrongFalsely : Prop := measureCountsRow.holds Try.pinned (OpenSpec.ofChange measureCountsWrong)

/- THE SECOND FORM. 'bulk': how many values and letters a reading holds, each counted each time it is reached (what is shared counts as often as it is met; a slice's spare places count too). A statement '..UptoSaid' is the law's where the arguments, and the package variables that the reading takes, are together of bulk at most 1048576: NARROWER than '..Said'. Prove '..Said' where nothing that the law and all that it calls make is longer than what came in: it says more and counts as full. Else prove '..UptoSaid'. A law counts once. -/
mutual
def uptoBulk {H : Type} : DataW H → Nat
  | .lit (.string bytes) => bytes.length + 1
  | .lit _ => 1
  | .nil => 1
  | .ptr d => uptoBulk d + 1
  | .slice elems spare => uptoBulkAll elems + uptoBulkAll spare + 1
  | .agg parts => uptoBulkAll parts + 1
  | .iface _ d => uptoBulk d + 1
  | .map entries => uptoBulkEntries entries + 1
  | .held _ => 1
def uptoBulkAll {H : Type} : List (DataW H) → Nat
  | [] => 0
  | d :: r => uptoBulk d + uptoBulkAll r
def uptoBulkEntries {H : Type} : List (Lit × DataW H) → Nat
  | [] => 0
  | x :: r => uptoBulkEntry x + uptoBulkEntries r
def uptoBulkEntry {H : Type} : Lit × DataW H → Nat
  | (.string bytes, d) => bytes.length + uptoBulk d + 1
  | (_, d) => uptoBulk d + 1
 end
def uptoSmall : (H : Type) → List (DataW H) → Bool := fun _ ds => decide (uptoBulkAll ds ≤ 1048576)
def OpenSpec.upto (s : _root_.Go.ChangeSpec) : _root_.Go.OpenSpec := { _root_.Go.OpenSpec.ofChange s with cond := some uptoSmall }

/-- 'burinlaw11.MeasureWithin', WHERE WHAT IT READS IS OF BULK AT MOST 1048576: true; the input reads as it did. -/
def measureWithinUptoRow : OpenClaim := { program := "ytnfmcdhllplgmab", sum := "ccda49adf84d37f08df678be5838f8ae880caa4ca7df53b4616b721665f711cc", func := "burin/burinlaw11.MeasureWithin", spec := "measureWithin", inPlace := ["math.Float64frombits", "math.Float64bits"], apart := false, narrowed := true }
def MeasureWithinUptoSaid : Prop := measureWithinUptoRow.holds Try.pinned (OpenSpec.upto measureWithinSpec)

/-- 'burinlaw11.MeasureMeans', WHERE WHAT IT READS IS OF BULK AT MOST 1048576: true; the input reads as it did. -/
def measureMeansUptoRow : OpenClaim := { program := "ytnfmcdhllplgmab", sum := "ccda49adf84d37f08df678be5838f8ae880caa4ca7df53b4616b721665f711cc", func := "burin/burinlaw11.MeasureMeans", spec := "measureMeans", inPlace := ["math.Float64bits", "math.Float64frombits", "internal/reflectlite.ValueOf", "internal/reflectlite.Swapper", "(internal/reflectlite.Value).Len"], unfollowed := true, recurses := true, apart := false, narrowed := true }
def MeasureMeansUptoSaid : Prop := measureMeansUptoRow.holds Try.pinned (OpenSpec.upto measureMeansSpec)

/-- 'burinlaw11.MeasureCounts', WHERE WHAT IT READS IS OF BULK AT MOST 1048576: true; the input reads as it did. -/
def measureCountsUptoRow : OpenClaim := { program := "ytnfmcdhllplgmab", sum := "ccda49adf84d37f08df678be5838f8ae880caa4ca7df53b4616b721665f711cc", func := "burin/burinlaw11.MeasureCounts", spec := "measureCounts", inPlace := ["math.Float64bits", "math.Float64frombits", "internal/reflectlite.ValueOf", "internal/reflectlite.Swapper", "(internal/reflectlite.Value).Len"], unfollowed := true, recurses := true, apart := false, narrowed := true }
def MeasureCountsUptoSaid : Prop := measureCountsUptoRow.holds Try.pinned (OpenSpec.upto measureCountsSpec)

end Rows
end Go.Proofs.Ytnfmcdhllplgmab
