/- Small functions: sizes, strides, rows, masks. -/
import Derived.Test.YtpblenebmjmijaaRows
import Derived.Test.YtpblenebmjmijaaFrame
import Derived.Deep.QuietTactic
import Derived.BigQuiet
import Derived.BigRegion
namespace Go.Proofs.Ytpblenebmjmijaa
open Go.RowKit

set_option maxRecDepth 100000 in
set_option maxHeartbeats 1000000 in
theorem strideOf_any (W : Nat) (w : World) (h : W ≤ 1048576) :
    Calls Try.prog 54 #[.int .i64 W] w fun e w' => e = .returned (.int .i64 (stride W : Nat)) ∧ w' = w := by
  go_enter Try.func54, Try.ntmps54
  go_wp2
  go_ret
  exact ⟨by simp [stride]; omega, rfl⟩

set_option maxRecDepth 100000 in
set_option maxHeartbeats 1000000 in
theorem isBit_any (b : Int) (w : World) :
    Calls Try.prog 42 #[.int .i64 b] w fun e w' => e = .returned (.bool (decide (b = 0 ∨ b = 1))) ∧ w' = w := by
  go_enter Try.func42, Try.ntmps42
  by_cases h0 : b = 0
  · subst h0
    go_wp2
    go_ret
    exact ⟨by simp, rfl⟩
  · have h0' : (b == 0) = false := by simp [h0]
    go_wp2
    go_ret
    exact ⟨by simp [h0]; rw [Bool.beq_eq_decide_eq], rfl⟩

def sizeOK (x y : Int) : Bool := decide (1 ≤ x ∧ 1 ≤ y ∧ x * y ≤ 1048576)

theorem le_div_iff (x y : Int) (hy : 1 ≤ y) : (x ≤ 1048576 / y) ↔ x * y ≤ 1048576 := Int.le_ediv_iff_mul_le (by omega)
theorem sizeOK_of (x y : Int) (h : 1 ≤ x) (hy : 1 ≤ y) : decide (x ≤ 1048576 / y) = sizeOK x y := by
  unfold sizeOK
  rw [decide_eq_decide, le_div_iff x y hy]
  exact ⟨fun h1 => ⟨h, hy, h1⟩, fun h1 => h1.2.2⟩

set_option maxRecDepth 100000 in
set_option maxHeartbeats 1000000 in
theorem isSize_any (x y : Int) (w : World) (hx : -9223372036854775808 ≤ x ∧ x ≤ 9223372036854775807) (hy : -9223372036854775808 ≤ y ∧ y ≤ 9223372036854775807) :
    Calls Try.prog 36 #[.int .i64 x, .int .i64 y] w fun e w' => e = .returned (.bool (sizeOK x y)) ∧ w' = w := by
  go_enter Try.func36, Try.ntmps36
  by_cases h0 : 1 ≤ x
  · by_cases h1 : 1 ≤ y
    · go_wp2
      go_ret
      exact ⟨by rw [← sizeOK_of x y h0 h1]; rfl, rfl⟩
    · go_wp2
      go_ret
      exact ⟨by simp [sizeOK]; omega, rfl⟩
  · go_wp2
    go_ret
    exact ⟨by simp [sizeOK]; omega, rfl⟩

set_option maxRecDepth 100000 in
set_option maxHeartbeats 1000000 in
theorem inside_any (b g cap W H : Nat) (P : Nat → Nat → Bool) (x y : Int) (w : World) (h : MapAt w b g cap W H P) :
    Calls Try.prog 41 #[.pointer (some ⟨b, 0, none⟩), .int .i64 x, .int .i64 y] w fun e w' => e = .returned (.bool (decide (0 ≤ x ∧ x < W ∧ 0 ≤ y ∧ y < H))) ∧ w' = w := by
  obtain ⟨c0, c1, c2, c3, cf⟩ := cell_of_four h.blk
  clear h
  go_enter Try.func41, Try.ntmps41
  by_cases h0 : 0 ≤ x
  · by_cases h1 : x < W
    · by_cases h2 : 0 ≤ y
      · go_wp2
        go_ret
        exact ⟨by simp [h0, h1, h2], rfl⟩
      · go_wp2
        go_ret
        exact ⟨by simp; omega, rfl⟩
    · go_wp2
      go_ret
      exact ⟨by simp; omega, rfl⟩
  · go_wp2
    go_ret
    exact ⟨by simp; omega, rfl⟩

set_option maxRecDepth 100000 in
set_option maxHeartbeats 1000000 in
theorem row_any (b g cap W H : Nat) (P : Nat → Nat → Bool) (y : Nat) (w : World) (h : MapAt w b g cap W H P) (hy : y < H) :
    Calls Try.prog 44 #[.pointer (some ⟨b, 0, none⟩), .int .i64 y] w fun e w' => e = .returned (.slice (some ⟨g, y * stride W, none⟩) (stride W) (stride W)) ∧ ∃ q, w' = w.drewN q := by
  obtain ⟨c0, c1, c2, c3, cf⟩ := cell_of_four h.blk
  have hwl := h.words_le
  have hca : H * stride W ≤ cap ∧ cap ≤ maxLen := by
    rcases h.own.2 with ⟨e, _⟩ | ⟨g', cap', cur, e, _, _, hc, hm, _⟩
    · cases e
    · simp at e; obtain ⟨_, rfl⟩ := e; exact ⟨hc, hm⟩
  unfold maxLen at hca
  have hend : y * stride W + stride W ≤ H * stride W := by rw [← Nat.succ_mul]; exact Nat.mul_le_mul_right _ hy
  have hS := stride_pos h.wpos
  have hyb : (y : Int) ≤ 1048576 := by
    have := h.area
    have : 1 * H ≤ W * H := Nat.mul_le_mul_right _ h.wpos
    omega
  clear h cf c0 c1
  generalize stride W = S at *
  generalize H * S = N at *
  have hm1 : (y : Int) * (S : Int) = ((y * S : Nat) : Int) := by push_cast; rfl
  have hm2 : ((y : Int) + 1) * (S : Int) = ((y * S : Nat) : Int) + (S : Int) := by rw [Int.add_mul, hm1]; omega
  generalize y * S = a at *
  obtain ⟨hc1, hc2⟩ := hca
  have hn1 : ¬ a + S = a := by omega
  have hn2 : ¬ S = 0 := by omega
  go_enter Try.func44, Try.ntmps44
  go_wp2
  go_region
  go_wp2
  all_goals first | (exfalso; omega) | (go_ret; exact ⟨by simp, 1, rfl⟩)

end Go.Proofs.Ytpblenebmjmijaa
