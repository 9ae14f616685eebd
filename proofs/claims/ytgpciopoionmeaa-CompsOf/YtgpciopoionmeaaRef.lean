/- The document's own answer: 'Within', 'Do'. -/
import Derived.Test.YtgpciopoionmeaaCheck
namespace Go.Proofs.Ytgpciopoionmeaa
open Go.RowKit

def opR (op : Nat) (d s : Bool) : Bool := if op = 0 then d || s else if op = 1 then d && s else if op = 2 then xor d s else if op = 3 then !(xor d s) else s

set_option maxRecDepth 100000 in
set_option maxHeartbeats 1000000 in
theorem do_any (op : Nat) (d s : Bool) (w : World) (h : op ≤ 4) :
    Calls Try.prog 54 #[.int .i64 op, .int .i64 (d.toNat : Nat), .int .i64 (s.toNat : Nat)] w fun e w' => e = .returned (.int .i64 ((opR op d s).toNat : Nat)) ∧ w' = w := by
  rcases (show op = 0 ∨ op = 1 ∨ op = 2 ∨ op = 3 ∨ op = 4 from by omega) with rfl | rfl | rfl | rfl | rfl <;> cases d <;> cases s
  all_goals
    go_enter Try.func54, Try.ntmps54
    go_wp2
    go_ret
    exact ⟨congrArg (fun x => Ending.returned (Value.int .i64 x)) (by decide +kernel), rfl⟩

end Go.Proofs.Ytgpciopoionmeaa
