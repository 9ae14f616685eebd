/- Package bitmap: what the other texts lack (Bxa, Bxc). -/
import Derived.Deep.RegionHeld3
import Derived.Handy
import Derived.Test.YtgpciopoionmeaaFp
namespace Go.Proofs.Ytgpciopoionmeaa
open Go.RowKit

set_option maxRecDepth 100000 in
set_option maxHeartbeats 1000000 in
theorem isOr : IsOp 78 (fun d s => d ||| s) (fun d s => d || s) := by
  refine ⟨fun d s w hd hs => ?_, fun d s hd hs => Nat.or_lt_two_pow (n := 64) hd hs, fun d s i _ _ _ => Nat.testBit_or _ _ _⟩
  have k1 := u64_or_nat d s hd hs
  go_enter Try.func78, Try.ntmps78
  go_wp2
  go_ret
  exact ⟨rfl, rfl⟩
set_option maxRecDepth 100000 in
set_option maxHeartbeats 1000000 in
theorem isAnd : IsOp 79 (fun d s => d &&& s) (fun d s => d && s) := by
  refine ⟨fun d s w hd hs => ?_, fun d s hd _ => Nat.lt_of_le_of_lt Nat.and_le_left hd, fun d s i _ _ _ => Nat.testBit_and _ _ _⟩
  have k1 := u64_and_nat d s hd hs
  go_enter Try.func79, Try.ntmps79
  go_wp2
  go_ret
  exact ⟨rfl, rfl⟩
set_option maxRecDepth 100000 in
set_option maxHeartbeats 1000000 in
theorem isXor : IsOp 80 (fun d s => d ^^^ s) (fun d s => xor d s) := by
  refine ⟨fun d s w hd hs => ?_, fun d s hd hs => Nat.xor_lt_two_pow (n := 64) hd hs, fun d s i _ _ _ => Nat.testBit_xor _ _ _⟩
  have k1 := u64_xor_nat d s hd hs
  go_enter Try.func80, Try.ntmps80
  go_wp2
  go_ret
  exact ⟨rfl, rfl⟩
set_option maxRecDepth 100000 in
set_option maxHeartbeats 1000000 in
theorem isXnor : IsOp 81 (fun d s => 18446744073709551615 - (d ^^^ s)) (fun d s => !(xor d s)) := by
  refine ⟨fun d s w hd hs => ?_, fun d s hd hs => by omega, fun d s i hd hs hi => ?_⟩
  · have k1 := u64_xor_nat d s hd hs
    have hx : d ^^^ s < 18446744073709551616 := Nat.xor_lt_two_pow (n := 64) hd hs
    have k2 := not_num (d ^^^ s) hx
    generalize d ^^^ s = X at *
    generalize 18446744073709551615 - X = Y at *
    go_enter Try.func81, Try.ntmps81
    go_wp2
    go_ret
    exact ⟨rfl, rfl⟩
  · have hx : d ^^^ s < 2 ^ 64 := Nat.xor_lt_two_pow (n := 64) hd hs
    rw [show 18446744073709551615 - (d ^^^ s) = 2 ^ 64 - ((d ^^^ s) + 1) from by omega, Nat.testBit_two_pow_sub_succ hx, Nat.testBit_xor]
    simp [hi]
set_option maxRecDepth 100000 in
set_option maxHeartbeats 1000000 in
theorem isReplace : IsOp 52 (fun _ s => s) (fun _ s => s) := by
  refine ⟨fun d s w _ _ => ?_, fun d s _ hs => hs, fun d s i _ _ _ => rfl⟩
  go_enter Try.func52, Try.ntmps52
  go_wp2
  go_ret
  exact ⟨rfl, rfl⟩


set_option maxRecDepth 100000 in
set_option maxHeartbeats 1000000 in
theorem operations_any (w : World) :
    Calls Try.prog 63 #[] w fun e w' => e = .returned (.slice (some ⟨w.heap.size, 0, none⟩) 5 5) ∧ w' = w.alloc (.cells #[.int .i64 0, .func (.func 78) #[] #[], .int .i64 1, .func (.func 79) #[] #[], .int .i64 2, .func (.func 80) #[] #[], .int .i64 3, .func (.func 81) #[] #[], .int .i64 4, .func (.func 52) #[] #[]] 110) := by
  go_enter Try.func63, Try.ntmps63
  go_wp2
  go_ret
  exact ⟨rfl, rfl⟩


end Go.Proofs.Ytgpciopoionmeaa
