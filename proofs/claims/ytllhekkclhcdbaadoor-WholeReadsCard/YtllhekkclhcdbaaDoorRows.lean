/-
  NARROWER THAN 'FOR EVERY INPUT', by the rows' own cells (each row's printed sentence says how): WholeEncodes: laid · WholeReads: laid · WholeMixed: laid · WholeBack: laid · WholeRows: laid · WholeNone: laid.
  DERIVED. THE GIVEN ROWS OF THIS SEAT. 6 by the template 'for every input the law returns true; each argument reads behind the call as it read before'; 0 by the template 'total and deterministic' (their statements: YtllhekkclhcdbaaDoorTotals.lean).
  GIVEN WITH THE SEED: the statements are not yours to turn. If you find one false, say at which input.
  Laid BY PROGRAM, IN A SANDBOX (cutbox-rows.mjs): the forced cells as the released guide's own fill.sh prints them over the translation 40acc4a6c58369ce… (all of the seat's roots in one cut). By AI agents, Wed Nov 11 2026. No macro, syntax, notation, axiom, sorry.
-/
import Derived.Test.YtllhekkclhcdbaaDoorChecked
import GoSem.Claim
import GoSem.ClaimJoined
import GoSem.ClaimMapViews
import Derived.JoinedTies
import Derived.KernelRfl
namespace Go.Proofs.YtllhekkclhcdbaaDoor
/- THE CELL 'sum', in the pinned program and in every row, IS THE sha256 OF THE DUMP (.gsa) THAT YtllhekkclhcdbaaDoorProg.lean LOADS. Nothing in Lean hashes anything: it is a label: what it is worth is what the hold of that sum in a sandbox is worth. -/
noncomputable def Tryd.pinned : Pinned := { name := "ytllhekkclhcdbaadoor", sum := "40acc4a6c58369ce81280da0a2d9570aaec30b9284fd2864e2822975905a882e", checked := Tryd.checked }
namespace Rows
def none {H : Type} : Left H := { results := [], args := [] }

/- WHAT THE LISTED PACKAGE-LEVEL VARIABLES READ AS WHEN THE CALL BEGINS. Each datum BY PROGRAM (the guide's laid-datum.mjs) off the statement by which the dump's own 'gosem.cut.vars' lays the variable. In a bare row this is a premise. The card (YtllhekkclhcdbaaDoorCards.lean) ties it to the program's text. -/
def laid_burin_whole_rows {H : Type} : DataW H := .agg [.agg [.lit (.int .u64 0), .lit (.int .u64 0), .lit (.int .i64 1), .lit (.int .i64 2)], .agg [.lit (.int .u64 4), .lit (.int .u64 2), .lit (.int .i64 2), .lit (.int .i64 4)], .agg [.lit (.int .u64 20), .lit (.int .u64 6), .lit (.int .i64 3), .lit (.int .i64 6)], .agg [.lit (.int .u64 84), .lit (.int .u64 14), .lit (.int .i64 4), .lit (.int .i64 8)], .agg [.lit (.int .u64 340), .lit (.int .u64 30), .lit (.int .i64 5), .lit (.int .i64 12)], .agg [.lit (.int .u64 4436), .lit (.int .u64 31), .lit (.int .i64 5), .lit (.int .i64 32)]]

/-- 'burinlaw5.WholeEncodes': WHATEVER THE INPUT: true; the input reads as it did. -/
def wholeEncodesSpec : ChangeSpec := { name := "wholeEncodes", fn := fun _ => fun
  | [d] => { results := [.lit (.bool true)], args := [d] }
  | _ => none }
def wholeEncodesRow : OpenClaim := { program := "ytllhekkclhcdbaadoor", sum := "40acc4a6c58369ce81280da0a2d9570aaec30b9284fd2864e2822975905a882e", func := "burin/burinlaw5.WholeEncodes", spec := "wholeEncodes", unfollowed := true, recurses := true, named := ["burin/whole.rows"], apart := false, laid := [("burin/whole.rows", laid_burin_whole_rows)] }
def WholeEncodesSaid : Prop := wholeEncodesRow.holds Tryd.pinned (OpenSpec.ofChange wholeEncodesSpec)

/-- ITS FALSE NEIGHBOUR: 'it returns false'. Refute it at one input. -/
def wholeEncodesWrong : ChangeSpec := { name := "wholeEncodes", fn := fun _ => fun
  | [d] => { results := [.lit (.bool false)], args := [d] }
  | _ => none }
def WholeEncodesWrongFalsely : Prop := wholeEncodesRow.holds Tryd.pinned (OpenSpec.ofChange wholeEncodesWrong)

/-- 'burinlaw5.WholeReads': WHATEVER THE INPUT: true; the input reads as it did. -/
def wholeReadsSpec : ChangeSpec := { name := "wholeReads", fn := fun _ => fun
  | [d] => { results := [.lit (.bool true)], args := [d] }
  | _ => none }
def wholeReadsRow : OpenClaim := { program := "ytllhekkclhcdbaadoor", sum := "40acc4a6c58369ce81280da0a2d9570aaec30b9284fd2864e2822975905a882e", func := "burin/burinlaw5.WholeReads", spec := "wholeReads", unfollowed := true, recurses := true, named := ["burin/whole.rows"], apart := false, laid := [("burin/whole.rows", laid_burin_whole_rows)] }
def WholeReadsSaid : Prop := wholeReadsRow.holds Tryd.pinned (OpenSpec.ofChange wholeReadsSpec)

/-- ITS FALSE NEIGHBOUR: 'it returns false'. Refute it at one input. -/
def wholeReadsWrong : ChangeSpec := { name := "wholeReads", fn := fun _ => fun
  | [d] => { results := [.lit (.bool false)], args := [d] }
  | _ => none }
def WholeReadsWrongFalsely : Prop := wholeReadsRow.holds Tryd.pinned (OpenSpec.ofChange wholeReadsWrong)

/-- 'burinlaw5.WholeMixed': WHATEVER THE INPUT: true; the input reads as it did. -/
def wholeMixedSpec : ChangeSpec := { name := "wholeMixed", fn := fun _ => fun
  | [d] => { results := [.lit (.bool true)], args := [d] }
  | _ => none }
def wholeMixedRow : OpenClaim := { program := "ytllhekkclhcdbaadoor", sum := "40acc4a6c58369ce81280da0a2d9570aaec30b9284fd2864e2822975905a882e", func := "burin/burinlaw5.WholeMixed", spec := "wholeMixed", unfollowed := true, recurses := true, named := ["burin/whole.rows"], apart := false, laid := [("burin/whole.rows", laid_burin_whole_rows)] }
def WholeMixedSaid : Prop := wholeMixedRow.holds Tryd.pinned (OpenSpec.ofChange wholeMixedSpec)

/-- ITS FALSE NEIGHBOUR: 'it returns false'. Refute it at one input. -/
def wholeMixedWrong : ChangeSpec := { name := "wholeMixed", fn := fun _ => fun
  | [d] => { results := [.lit (.bool false)], args := [d] }
  | _ => none }
def WholeMixedWrongFalsely : Prop := wholeMixedRow.holds Tryd.pinned (OpenSpec.ofChange wholeMixedWrong)

/-- 'burinlaw5.WholeBack': WHATEVER THE INPUT: true; the input reads as it did. -/
def wholeBackSpec : ChangeSpec := { name := "wholeBack", fn := fun _ => fun
  | [d] => { results := [.lit (.bool true)], args := [d] }
  | _ => none }
def wholeBackRow : OpenClaim := { program := "ytllhekkclhcdbaadoor", sum := "40acc4a6c58369ce81280da0a2d9570aaec30b9284fd2864e2822975905a882e", func := "burin/burinlaw5.WholeBack", spec := "wholeBack", unfollowed := true, recurses := true, named := ["burin/whole.rows"], apart := false, laid := [("burin/whole.rows", laid_burin_whole_rows)] }
def WholeBackSaid : Prop := wholeBackRow.holds Tryd.pinned (OpenSpec.ofChange wholeBackSpec)

/-- ITS FALSE NEIGHBOUR: 'it returns false'. Refute it at one input. -/
def wholeBackWrong : ChangeSpec := { name := "wholeBack", fn := fun _ => fun
  | [d] => { results := [.lit (.bool false)], args := [d] }
  | _ => none }
def WholeBackWrongFalsely : Prop := wholeBackRow.holds Tryd.pinned (OpenSpec.ofChange wholeBackWrong)

/-- 'burinlaw5.WholeRows': WHATEVER THE INPUT: true; the input reads as it did. -/
def wholeRowsSpec : ChangeSpec := { name := "wholeRows", fn := fun _ => fun
  | [d] => { results := [.lit (.bool true)], args := [d] }
  | _ => none }
def wholeRowsRow : OpenClaim := { program := "ytllhekkclhcdbaadoor", sum := "40acc4a6c58369ce81280da0a2d9570aaec30b9284fd2864e2822975905a882e", func := "burin/burinlaw5.WholeRows", spec := "wholeRows", unfollowed := true, recurses := true, named := ["burin/whole.rows"], apart := false, laid := [("burin/whole.rows", laid_burin_whole_rows)] }
def WholeRowsSaid : Prop := wholeRowsRow.holds Tryd.pinned (OpenSpec.ofChange wholeRowsSpec)

/-- ITS FALSE NEIGHBOUR: 'it returns false'. Refute it at one input. -/
def wholeRowsWrong : ChangeSpec := { name := "wholeRows", fn := fun _ => fun
  | [d] => { results := [.lit (.bool false)], args := [d] }
  | _ => none }
def WholeRowsWrongFalsely : Prop := wholeRowsRow.holds Tryd.pinned (OpenSpec.ofChange wholeRowsWrong)

/-- 'burinlaw5.WholeNone': WHATEVER THE INPUT: true; the input reads as it did. -/
def wholeNoneSpec : ChangeSpec := { name := "wholeNone", fn := fun _ => fun
  | [] => { results := [.lit (.bool true)], args := [] }
  | _ => none }
def wholeNoneRow : OpenClaim := { program := "ytllhekkclhcdbaadoor", sum := "40acc4a6c58369ce81280da0a2d9570aaec30b9284fd2864e2822975905a882e", func := "burin/burinlaw5.WholeNone", spec := "wholeNone", unfollowed := true, recurses := true, named := ["burin/whole.rows"], apart := false, laid := [("burin/whole.rows", laid_burin_whole_rows)] }
def WholeNoneSaid : Prop := wholeNoneRow.holds Tryd.pinned (OpenSpec.ofChange wholeNoneSpec)

/-- ITS FALSE NEIGHBOUR: 'it returns false'. Refute it at one input. -/
def wholeNoneWrong : ChangeSpec := { name := "wholeNone", fn := fun _ => fun
  | [] => { results := [.lit (.bool false)], args := [] }
  | _ => none }
def WholeNoneWrongFalsely : Prop := wholeNoneRow.holds Tryd.pinned (OpenSpec.ofChange wholeNoneWrong)

/- THE SECOND FORM. 'bulk': how many values and letters a reading holds, each counted each time it is reached (what is shared counts as often as it is met; a slice's spare places count too). A statement '..UptoSaid' is the law's where the arguments, and the package variables that the reading takes, are together of bulk at most 1048576: NARROWER than '..Said'. Prove '..Said' where nothing that the law and all that it calls make is longer than what came in: it says more and counts as full. Else prove '..UptoSaid'. A law counts once. -/
mutual
def uptoBulk {H : Type} : DataW H → Nat
  | .lit (.string bytes) => bytes.length + 1
  | .lit _ => 1
  | .nil => 1
  | .ptr d => uptoBulk d + 1
  | .slice elems spare => uptoBulkAll elems + uptoBulkAll spare + 1
  | .agg parts => uptoBulkAll parts + 1
  | .iface _ d => uptoBulk d + 1
  | .map entries => uptoBulkEntries entries + 1
  | .held _ => 1
def uptoBulkAll {H : Type} : List (DataW H) → Nat
  | [] => 0
  | d :: r => uptoBulk d + uptoBulkAll r
def uptoBulkEntries {H : Type} : List (Lit × DataW H) → Nat
  | [] => 0
  | x :: r => uptoBulkEntry x + uptoBulkEntries r
def uptoBulkEntry {H : Type} : Lit × DataW H → Nat
  | (.string bytes, d) => bytes.length + uptoBulk d + 1
  | (_, d) => uptoBulk d + 1
 end
def uptoSmall : (H : Type) → List (DataW H) → Bool := fun _ ds => decide (uptoBulkAll ds ≤ 1048576)
def OpenSpec.upto (s : _root_.Go.ChangeSpec) : _root_.Go.OpenSpec := { _root_.Go.OpenSpec.ofChange s with cond := some uptoSmall }

/-- 'burinlaw5.WholeEncodes', WHERE WHAT IT READS IS OF BULK AT MOST 1048576: true; the input reads as it did. -/
def wholeEncodesUptoRow : OpenClaim := { program := "ytllhekkclhcdbaadoor", sum := "40acc4a6c58369ce81280da0a2d9570aaec30b9284fd2864e2822975905a882e", func := "burin/burinlaw5.WholeEncodes", spec := "wholeEncodes", unfollowed := true, recurses := true, named := ["burin/whole.rows"], apart := false, laid := [("burin/whole.rows", laid_burin_whole_rows)], narrowed := true }
def WholeEncodesUptoSaid : Prop := wholeEncodesUptoRow.holds Tryd.pinned (OpenSpec.upto wholeEncodesSpec)

/-- 'burinlaw5.WholeReads', WHERE WHAT IT READS IS OF BULK AT MOST 1048576: true; the input reads as it did. -/
def wholeReadsUptoRow : OpenClaim := { program := "ytllhekkclhcdbaadoor", sum := "40acc4a6c58369ce81280da0a2d9570aaec30b9284fd2864e2822975905a882e", func := "burin/burinlaw5.WholeReads", spec := "wholeReads", unfollowed := true, recurses := true, named := ["burin/whole.rows"], apart := false, laid := [("burin/whole.rows", laid_burin_whole_rows)], narrowed := true }
def WholeReadsUptoSaid : Prop := wholeReadsUptoRow.holds Tryd.pinned (OpenSpec.upto wholeReadsSpec)

/-- 'burinlaw5.WholeMixed', WHERE WHAT IT READS IS OF BULK AT MOST 1048576: true; the input reads as it did. -/
def wholeMixedUptoRow : OpenClaim := { program := "ytllhekkclhcdbaadoor", sum := "40acc4a6c58369ce81280da0a2d9570aaec30b9284fd2864e2822975905a882e", func := "burin/burinlaw5.WholeMixed", spec := "wholeMixed", unfollowed := true, recurses := true, named := ["burin/whole.rows"], apart := false, laid := [("burin/whole.rows", laid_burin_whole_rows)], narrowed := true }
def WholeMixedUptoSaid : Prop := wholeMixedUptoRow.holds Tryd.pinned (OpenSpec.upto wholeMixedSpec)

/-- 'burinlaw5.WholeBack', WHERE WHAT IT READS IS OF BULK AT MOST 1048576: true; the input reads as it did. -/
def wholeBackUptoRow : OpenClaim := { program := "ytllhekkclhcdbaadoor", sum := "40acc4a6c58369ce81280da0a2d9570aaec30b9284fd2864e2822975905a882e", func := "burin/burinlaw5.WholeBack", spec := "wholeBack", unfollowed := true, recurses := true, named := ["burin/whole.rows"], apart := false, laid := [("burin/whole.rows", laid_burin_whole_rows)], narrowed := true }
def WholeBackUptoSaid : Prop := wholeBackUptoRow.holds Tryd.pinned (OpenSpec.upto wholeBackSpec)

/-- 'burinlaw5.WholeRows', WHERE WHAT IT READS IS OF BULK AT MOST 1048576: true; the input reads as it did. -/
def wholeRowsUptoRow : OpenClaim := { program := "ytllhekkclhcdbaadoor", sum := "40acc4a6c58369ce81280da0a2d9570aaec30b9284fd2864e2822975905a882e", func := "burin/burinlaw5.WholeRows", spec := "wholeRows", unfollowed := true, recurses := true, named := ["burin/whole.rows"], apart := false, laid := [("burin/whole.rows", laid_burin_whole_rows)], narrowed := true }
def WholeRowsUptoSaid : Prop := wholeRowsUptoRow.holds Tryd.pinned (OpenSpec.upto wholeRowsSpec)

/-- 'burinlaw5.WholeNone', WHERE WHAT IT READS IS OF BULK AT MOST 1048576: true; the input reads as it did. -/
def wholeNoneUptoRow : OpenClaim := { program := "ytllhekkclhcdbaadoor", sum := "40acc4a6c58369ce81280da0a2d9570aaec30b9284fd2864e2822975905a882e", func := "burin/burinlaw5.WholeNone", spec := "wholeNone", unfollowed := true, recurses := true, named := ["burin/whole.rows"], apart := false, laid := [("burin/whole.rows", laid_burin_whole_rows)], narrowed := true }
def WholeNoneUptoSaid : Prop := wholeNoneUptoRow.holds Tryd.pinned (OpenSpec.upto wholeNoneSpec)

end Rows
end Go.Proofs.YtllhekkclhcdbaaDoor
