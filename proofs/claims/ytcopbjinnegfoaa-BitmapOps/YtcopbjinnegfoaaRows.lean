/-
  No cell of these rows narrows 'for every input' (looked for: loops, veiled, ifaces, maps, wideKeys, modest, calm, conditions, laid).
  DERIVED. THE GIVEN ROWS OF THIS SEAT. 5 by the template 'for every input the law returns true; each argument reads behind the call as it read before'; 0 by the template 'total and deterministic' (their statements: YtcopbjinnegfoaaTotals.lean).
  GIVEN WITH THE SEED: the statements are not yours to turn. If you find one false, say at which input.
  Laid BY PROGRAM, IN A SANDBOX (cutbox-rows.mjs): the forced cells as the released guide's own fill.sh prints them over the translation 4039385d1a7eb8a8… (all of the seat's roots in one cut). By AI agents, Wed Nov 11 2026. No macro, syntax, notation, axiom, sorry.
-/
import Derived.Test.YtcopbjinnegfoaaChecked
import GoSem.Claim
import GoSem.ClaimJoined
import GoSem.ClaimMapViews
import Derived.JoinedTies
import Derived.KernelRfl
namespace Go.Proofs.Ytcopbjinnegfoaa
/- THE CELL 'sum', in the pinned program and in every row, IS THE sha256 OF THE DUMP (.gsa) THAT YtcopbjinnegfoaaProg.lean LOADS. Nothing in Lean hashes anything: it is a label: what it is worth is what the hold of that sum in a sandbox is worth. -/
noncomputable def Try.pinned : Pinned := { name := "ytcopbjinnegfoaa", sum := "4039385d1a7eb8a8c2f0d926beba7146d022a6c5b414b8f4134a8854d87b1b4d", checked := Try.checked }
namespace Rows
def none {H : Type} : Left H := { results := [], args := [] }

/-- 'burinlaw2.BitmapSizes': WHATEVER THE INPUT: true; the input reads as it did. -/
def bitmapSizesSpec : ChangeSpec := { name := "bitmapSizes", fn := fun _ => fun
  | [d] => { results := [.lit (.bool true)], args := [d] }
  | _ => none }
def bitmapSizesRow : OpenClaim := { program := "ytcopbjinnegfoaa", sum := "4039385d1a7eb8a8c2f0d926beba7146d022a6c5b414b8f4134a8854d87b1b4d", func := "burin/burinlaw2.BitmapSizes", spec := "bitmapSizes", unfollowed := true, recurses := true, apart := false }
def BitmapSizesSaid : Prop := bitmapSizesRow.holds Try.pinned (OpenSpec.ofChange bitmapSizesSpec)

/-- ITS FALSE NEIGHBOUR: 'it returns false'. Refute it at one input. -/
def bitmapSizesWrong : ChangeSpec := { name := "bitmapSizes", fn := fun _ => fun
  | [d] => { results := [.lit (.bool false)], args := [d] }
  | _ => none }
def BitmapSizesWrongFalsely : Prop := bitmapSizesRow.holds Try.pinned (OpenSpec.ofChange bitmapSizesWrong)

/-- 'burinlaw2.BitmapBlits': WHATEVER THE INPUT: true; the input reads as it did. -/
def bitmapBlitsSpec : ChangeSpec := { name := "bitmapBlits", fn := fun _ => fun
  | [d] => { results := [.lit (.bool true)], args := [d] }
  | _ => none }
def bitmapBlitsRow : OpenClaim := { program := "ytcopbjinnegfoaa", sum := "4039385d1a7eb8a8c2f0d926beba7146d022a6c5b414b8f4134a8854d87b1b4d", func := "burin/burinlaw2.BitmapBlits", spec := "bitmapBlits", unfollowed := true, recurses := true, apart := false }
def BitmapBlitsSaid : Prop := bitmapBlitsRow.holds Try.pinned (OpenSpec.ofChange bitmapBlitsSpec)

/-- ITS FALSE NEIGHBOUR: 'it returns false'. Refute it at one input. -/
def bitmapBlitsWrong : ChangeSpec := { name := "bitmapBlits", fn := fun _ => fun
  | [d] => { results := [.lit (.bool false)], args := [d] }
  | _ => none }
def BitmapBlitsWrongFalsely : Prop := bitmapBlitsRow.holds Try.pinned (OpenSpec.ofChange bitmapBlitsWrong)

/-- 'burinlaw2.BitmapSelf': WHATEVER THE INPUT: true; the input reads as it did. -/
def bitmapSelfSpec : ChangeSpec := { name := "bitmapSelf", fn := fun _ => fun
  | [d] => { results := [.lit (.bool true)], args := [d] }
  | _ => none }
def bitmapSelfRow : OpenClaim := { program := "ytcopbjinnegfoaa", sum := "4039385d1a7eb8a8c2f0d926beba7146d022a6c5b414b8f4134a8854d87b1b4d", func := "burin/burinlaw2.BitmapSelf", spec := "bitmapSelf", unfollowed := true, recurses := true, apart := false }
def BitmapSelfSaid : Prop := bitmapSelfRow.holds Try.pinned (OpenSpec.ofChange bitmapSelfSpec)

/-- ITS FALSE NEIGHBOUR: 'it returns false'. Refute it at one input. -/
def bitmapSelfWrong : ChangeSpec := { name := "bitmapSelf", fn := fun _ => fun
  | [d] => { results := [.lit (.bool false)], args := [d] }
  | _ => none }
def BitmapSelfWrongFalsely : Prop := bitmapSelfRow.holds Try.pinned (OpenSpec.ofChange bitmapSelfWrong)

/-- 'burinlaw2.BitmapOps': WHATEVER THE INPUT: true; the input reads as it did. -/
def bitmapOpsSpec : ChangeSpec := { name := "bitmapOps", fn := fun _ => fun
  | [d] => { results := [.lit (.bool true)], args := [d] }
  | _ => none }
def bitmapOpsRow : OpenClaim := { program := "ytcopbjinnegfoaa", sum := "4039385d1a7eb8a8c2f0d926beba7146d022a6c5b414b8f4134a8854d87b1b4d", func := "burin/burinlaw2.BitmapOps", spec := "bitmapOps", unfollowed := true, recurses := true, apart := false }
def BitmapOpsSaid : Prop := bitmapOpsRow.holds Try.pinned (OpenSpec.ofChange bitmapOpsSpec)

/-- ITS FALSE NEIGHBOUR: 'it returns false'. Refute it at one input. -/
def bitmapOpsWrong : ChangeSpec := { name := "bitmapOps", fn := fun _ => fun
  | [d] => { results := [.lit (.bool false)], args := [d] }
  | _ => none }
def BitmapOpsWrongFalsely : Prop := bitmapOpsRow.holds Try.pinned (OpenSpec.ofChange bitmapOpsWrong)

/-- 'burinlaw2.BitmapCrops': WHATEVER THE INPUT: true; the input reads as it did. -/
def bitmapCropsSpec : ChangeSpec := { name := "bitmapCrops", fn := fun _ => fun
  | [d] => { results := [.lit (.bool true)], args := [d] }
  | _ => none }
def bitmapCropsRow : OpenClaim := { program := "ytcopbjinnegfoaa", sum := "4039385d1a7eb8a8c2f0d926beba7146d022a6c5b414b8f4134a8854d87b1b4d", func := "burin/burinlaw2.BitmapCrops", spec := "bitmapCrops", unfollowed := true, recurses := true, apart := false }
def BitmapCropsSaid : Prop := bitmapCropsRow.holds Try.pinned (OpenSpec.ofChange bitmapCropsSpec)

/-- ITS FALSE NEIGHBOUR: 'it returns false'. Refute it at one input. -/
def bitmapCropsWrong : ChangeSpec := { name := "bitmapCrops", fn := fun _ => fun
  | [d] => { results := [.lit (.bool false)], args := [d] }
  | _ => none }
def BitmapCropsWrongFalsely : Prop := bitmapCropsRow.holds Try.pinned (OpenSpec.ofChange bitmapCropsWrong)

/- THE SECOND FORM. 'bulk': how many values and letters a reading holds, each counted each time it is reached (what is shared counts as often as it is met; a slice's spare places count too). A statement '..UptoSaid' is the law's where the arguments, and the package variables that the reading takes, are together of bulk at most 1048576: NARROWER than '..Said'. Prove '..Said' where nothing that the law and all that it calls make is longer than what came in: it says more and counts as full. Else prove '..UptoSaid'. A law counts once. -/
mutual
def uptoBulk {H : Type} : DataW H → Nat
  | .lit (.string bytes) => bytes.length + 1
  | .lit _ => 1
  | .nil => 1
  | .ptr d => uptoBulk d + 1
  | .slice elems spare => uptoBulkAll elems + uptoBulkAll spare + 1
  | .agg parts => uptoBulkAll parts + 1
  | .iface _ d => uptoBulk d + 1
  | .map entries => uptoBulkEntries entries + 1
  | .held _ => 1
def uptoBulkAll {H : Type} : List (DataW H) → Nat
  | [] => 0
  | d :: r => uptoBulk d + uptoBulkAll r
def uptoBulkEntries {H : Type} : List (Lit × DataW H) → Nat
  | [] => 0
  | x :: r => uptoBulkEntry x + uptoBulkEntries r
def uptoBulkEntry {H : Type} : Lit × DataW H → Nat
  | (.string bytes, d) => bytes.length + uptoBulk d + 1
  | (_, d) => uptoBulk d + 1
 end
def uptoSmall : (H : Type) → List (DataW H) → Bool := fun _ ds => decide (uptoBulkAll ds ≤ 1048576)
def OpenSpec.upto (s : _root_.Go.ChangeSpec) : _root_.Go.OpenSpec := { _root_.Go.OpenSpec.ofChange s with cond := some uptoSmall }

/-- 'burinlaw2.BitmapSizes', WHERE WHAT IT READS IS OF BULK AT MOST 1048576: true; the input reads as it did. -/
def bitmapSizesUptoRow : OpenClaim := { program := "ytcopbjinnegfoaa", sum := "4039385d1a7eb8a8c2f0d926beba7146d022a6c5b414b8f4134a8854d87b1b4d", func := "burin/burinlaw2.BitmapSizes", spec := "bitmapSizes", unfollowed := true, recurses := true, apart := false, narrowed := true }
def BitmapSizesUptoSaid : Prop := bitmapSizesUptoRow.holds Try.pinned (OpenSpec.upto bitmapSizesSpec)

/-- 'burinlaw2.BitmapBlits', WHERE WHAT IT READS IS OF BULK AT MOST 1048576: true; the input reads as it did. -/
def bitmapBlitsUptoRow : OpenClaim := { program := "ytcopbjinnegfoaa", sum := "4039385d1a7eb8a8c2f0d926beba7146d022a6c5b414b8f4134a8854d87b1b4d", func := "burin/burinlaw2.BitmapBlits", spec := "bitmapBlits", unfollowed := true, recurses := true, apart := false, narrowed := true }
def BitmapBlitsUptoSaid : Prop := bitmapBlitsUptoRow.holds Try.pinned (OpenSpec.upto bitmapBlitsSpec)

/-- 'burinlaw2.BitmapSelf', WHERE WHAT IT READS IS OF BULK AT MOST 1048576: true; the input reads as it did. -/
def bitmapSelfUptoRow : OpenClaim := { program := "ytcopbjinnegfoaa", sum := "4039385d1a7eb8a8c2f0d926beba7146d022a6c5b414b8f4134a8854d87b1b4d", func := "burin/burinlaw2.BitmapSelf", spec := "bitmapSelf", unfollowed := true, recurses := true, apart := false, narrowed := true }
def BitmapSelfUptoSaid : Prop := bitmapSelfUptoRow.holds Try.pinned (OpenSpec.upto bitmapSelfSpec)

/-- 'burinlaw2.BitmapOps', WHERE WHAT IT READS IS OF BULK AT MOST 1048576: true; the input reads as it did. -/
def bitmapOpsUptoRow : OpenClaim := { program := "ytcopbjinnegfoaa", sum := "4039385d1a7eb8a8c2f0d926beba7146d022a6c5b414b8f4134a8854d87b1b4d", func := "burin/burinlaw2.BitmapOps", spec := "bitmapOps", unfollowed := true, recurses := true, apart := false, narrowed := true }
def BitmapOpsUptoSaid : Prop := bitmapOpsUptoRow.holds Try.pinned (OpenSpec.upto bitmapOpsSpec)

/-- 'burinlaw2.BitmapCrops', WHERE WHAT IT READS IS OF BULK AT MOST 1048576: true; the input reads as it did. -/
def bitmapCropsUptoRow : OpenClaim := { program := "ytcopbjinnegfoaa", sum := "4039385d1a7eb8a8c2f0d926beba7146d022a6c5b414b8f4134a8854d87b1b4d", func := "burin/burinlaw2.BitmapCrops", spec := "bitmapCrops", unfollowed := true, recurses := true, apart := false, narrowed := true }
def BitmapCropsUptoSaid : Prop := bitmapCropsUptoRow.holds Try.pinned (OpenSpec.upto bitmapCropsSpec)

end Rows
end Go.Proofs.Ytcopbjinnegfoaa
