/- Small functions: sizes, strides, rows, masks. -/
import Derived.Test.YtgpciopoionmeaaRows
import Derived.Test.YtgpciopoionmeaaFrame
import Derived.Deep.QuietTactic
import Derived.BigQuiet
import Derived.BigRegion
namespace Go.Proofs.Ytgpciopoionmeaa
open Go.RowKit

set_option maxRecDepth 100000 in
set_option maxHeartbeats 1000000 in
theorem strideOf_any (W : Nat) (w : World) (h : W ≤ 1048576) :
    Calls Try.prog 46 #[.int .i64 W] w fun e w' => e = .returned (.int .i64 (stride W : Nat)) ∧ w' = w := by
  go_enter Try.func46, Try.ntmps46
  go_wp2
  go_ret
  exact ⟨by simp [stride]; omega, rfl⟩

set_option maxRecDepth 100000 in
set_option maxHeartbeats 1000000 in
theorem words_any (W : Nat) (w : World) (h : W ≤ 1048576) :
    Calls Try.prog 44 #[.int .i64 W] w fun e w' => e = .returned (.int .i64 (stride W : Nat)) ∧ w' = w := by
  go_enter Try.func44, Try.ntmps44
  go_wp2
  go_ret
  exact ⟨by simp [stride], rfl⟩

def sizeOK (x y : Int) : Bool := decide (1 ≤ x ∧ 1 ≤ y ∧ x * y ≤ 1048576)

theorem le_div_iff (x y : Int) (hy : 1 ≤ y) : (x ≤ 1048576 / y) ↔ x * y ≤ 1048576 := Int.le_ediv_iff_mul_le (by omega)
theorem sizeOK_of (x y : Int) (h : 1 ≤ x) (hy : 1 ≤ y) : decide (x ≤ 1048576 / y) = sizeOK x y := by
  unfold sizeOK
  rw [decide_eq_decide, le_div_iff x y hy]
  exact ⟨fun h1 => ⟨h, hy, h1⟩, fun h1 => h1.2.2⟩

set_option maxRecDepth 100000 in
set_option maxHeartbeats 1000000 in
theorem isSize_any (x y : Int) (w : World) (hx : -9223372036854775808 ≤ x ∧ x ≤ 9223372036854775807) (hy : -9223372036854775808 ≤ y ∧ y ≤ 9223372036854775807) :
    Calls Try.prog 62 #[.int .i64 x, .int .i64 y] w fun e w' => e = .returned (.bool (sizeOK x y)) ∧ w' = w := by
  go_enter Try.func62, Try.ntmps62
  by_cases h0 : 1 ≤ x
  · by_cases h1 : 1 ≤ y
    · go_wp2
      go_ret
      exact ⟨by rw [← sizeOK_of x y h0 h1]; rfl, rfl⟩
    · go_wp2
      go_ret
      exact ⟨by simp [sizeOK]; omega, rfl⟩
  · go_wp2
    go_ret
    exact ⟨by simp [sizeOK]; omega, rfl⟩

end Go.Proofs.Ytgpciopoionmeaa
