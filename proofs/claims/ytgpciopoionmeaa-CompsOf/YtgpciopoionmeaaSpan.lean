/- Small functions, more: spans, masks, gaps, the count of a word. -/
import Derived.Test.YtgpciopoionmeaaSmall
import Derived.Test.YtgpciopoionmeaaSmall
import Derived.Laws.Bits128
namespace Go.Proofs.Ytgpciopoionmeaa
open Go.RowKit

def fstW (to n : Nat) : Nat := if n = 0 then 0 else to / 64
def cntW (to n : Nat) : Nat := if n = 0 then 0 else (to + n - 1) / 64 - to / 64 + 1

theorem wrapu64 (x : Int) : IntKind.u64.wrap x = x % 18446744073709551616 := by
  simp [IntKind.wrap, IntKind.signed, IntKind.bits]

theorem all_shr (a j : Nat) : (18446744073709551615 / 2 ^ a).testBit j = decide (j + a < 64) := by
  rw [Nat.testBit_div_two_pow, show (18446744073709551615 : Nat) = 2 ^ 64 - 1 from rfl, Nat.testBit_two_pow_sub_one]
theorem all_shl (b j : Nat) : (18446744073709551615 * 2 ^ b % 18446744073709551616).testBit j = (decide (j < 64) && decide (b ≤ j)) := by
  rw [show (18446744073709551616 : Nat) = 2 ^ 64 from rfl, Nat.testBit_mod_two_pow, Nat.testBit_mul_two_pow, show (18446744073709551615 : Nat) = 2 ^ 64 - 1 from rfl, Nat.testBit_two_pow_sub_one]
  by_cases h1 : j < 64 <;> by_cases h2 : b ≤ j <;> simp [h1, h2]
  omega
theorem cast_div_pow (c a : Nat) : (c : Int) / 2 ^ a = ((c / 2 ^ a : Nat) : Int) := by push_cast; rfl
theorem cast_mul_pow (c b m : Nat) : (c : Int) * 2 ^ b % (m : Int) = ((c * 2 ^ b % m : Nat) : Int) := by push_cast; rfl
theorem mask_num (a b : Nat) (_hb : b < 64) : bits .and .u64 ((18446744073709551615 : Int) / 2 ^ a) (IntKind.u64.wrap (18446744073709551615 * 2 ^ b)) = ((wordOf fun i => decide (a ≤ i ∧ i + b < 64) : Nat) : Int) := by
  have h1 : (18446744073709551615 : Int) / 2 ^ a = ((18446744073709551615 / 2 ^ a : Nat) : Int) := cast_div_pow 18446744073709551615 a
  have h2 : IntKind.u64.wrap (18446744073709551615 * 2 ^ b) = ((18446744073709551615 * 2 ^ b % 18446744073709551616 : Nat) : Int) := by rw [wrapu64]; exact cast_mul_pow 18446744073709551615 b 18446744073709551616
  have l1 : 18446744073709551615 / 2 ^ a < 18446744073709551616 := Nat.lt_of_le_of_lt (Nat.div_le_self _ _) (by omega)
  have l2 : 18446744073709551615 * 2 ^ b % 18446744073709551616 < 18446744073709551616 := Nat.mod_lt _ (by omega)
  rw [h1, h2, u64_and_nat _ _ l1 l2]
  congr 1
  refine word_eq (Nat.lt_of_le_of_lt Nat.and_le_left l1) ?_
  intro k hk
  rw [Nat.testBit_and, all_shr, all_shl]
  by_cases h3 : a ≤ k <;> by_cases h4 : k + b < 64 <;> simp [h3, h4] <;> omega
theorem mask_num0 (b : Nat) (hb : b < 64) : bits .and .u64 18446744073709551615 (IntKind.u64.wrap (18446744073709551615 * 2 ^ b)) = ((wordOf fun i => decide (0 ≤ i ∧ i + b < 64) : Nat) : Int) := by
  rw [← mask_num 0 b hb]; simp
theorem mask_num1 (a : Nat) : bits .and .u64 ((18446744073709551615 : Int) / 2 ^ a) 18446744073709551615 = ((wordOf fun i => decide (a ≤ i ∧ i + 0 < 64) : Nat) : Int) := by
  rw [← mask_num a 0 (by omega)]; rw [show IntKind.u64.wrap (18446744073709551615 * 2 ^ 0) = 18446744073709551615 from by decide]
theorem mask_num2 : bits .and .u64 18446744073709551615 18446744073709551615 = ((wordOf fun i => decide (0 ≤ i ∧ i + 0 < 64) : Nat) : Int) := by
  rw [← mask_num1 0]; simp
theorem pad_num (p : Nat) (h : p < 64) : IntKind.u64.wrap (IntKind.u64.wrap (2 ^ p) - 1) = ((2 ^ p - 1 : Nat) : Int) := by
  have h1 : (2 : Nat) ^ p < 2 ^ 64 := Nat.pow_lt_pow_right (by omega) h
  have h2 : 0 < (2 : Nat) ^ p := Nat.two_pow_pos p
  have h3 : (2 : Int) ^ p = ((2 ^ p : Nat) : Int) := by push_cast; rfl
  rw [wrapu64, wrapu64, h3]
  generalize (2 : Nat) ^ p = X at *
  omega

set_option maxRecDepth 100000 in
set_option maxHeartbeats 1000000 in
theorem padOf_any (W : Nat) (w : World) (h : W ≤ 1048576) (h0 : 1 ≤ W) :
    Calls Try.prog 66 #[.int .i64 W] w fun e w' => e = .returned (.int .u64 (2 ^ (64 * stride W - W) - 1 : Nat)) ∧ w' = w := by
  go_enter Try.func66, Try.ntmps66
  go_wp2_with fail
  refine (strideOf_any W _ h).mono ?_
  rintro e w1 ⟨rfl, rfl⟩
  have hs1 : stride W * 64 < W + 64 := by unfold stride; omega
  have hs2 : W ≤ stride W * 64 := by unfold stride; omega
  go_wp2
  go_ret
  refine ⟨?_, rfl⟩
  rw [show 64 * stride W - W = stride W * 64 - W from by omega, ← pad_num _ (by omega)]
  rfl

end Go.Proofs.Ytgpciopoionmeaa
