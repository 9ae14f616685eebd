/- Small functions, more: spans, masks, gaps, the count of a word. -/
import Derived.Test.YtpblenebmjmijaaSmall
import Derived.Test.YtpblenebmjmijaaPop
import Derived.Laws.Bits128
namespace Go.Proofs.Ytpblenebmjmijaa
open Go.RowKit

def fstW (to n : Nat) : Nat := if n = 0 then 0 else to / 64
def cntW (to n : Nat) : Nat := if n = 0 then 0 else (to + n - 1) / 64 - to / 64 + 1

set_option maxRecDepth 100000 in
set_option maxHeartbeats 1000000 in
theorem wordsOf_any (fr : Int) (to n : Nat) (w : World) (h : to ≤ 4194304) (hn : n ≤ 4194304) :
    Calls Try.prog 55 #[.agg #[.int .i64 fr, .int .i64 to, .int .i64 n]] w fun e w' => e = .returned (.tuple #[.int .i64 (fstW to n : Nat), .int .i64 (cntW to n : Nat)]) ∧ Fr (fun _ => False) w w' := by
  by_cases h0 : n = 0
  · subst h0
    go_enter Try.func55, Try.ntmps55
    go_wp2
    go_ret2
    exact ⟨by simp [fstW, cntW], (Fr.refl _ _).alloc _⟩
  · have h0' : ((n : Int) == 0) = false := by simp [h0]
    have hq1 : (to : Int) + n - 1 = ((to + n - 1 : Nat) : Int) := by omega
    go_enter Try.func55, Try.ntmps55
    go_wp2
    go_region
    go_wp2
    go_ret2
    refine ⟨?_, ((Fr.refl _ _).alloc _).drewN _⟩
    simp [fstW, cntW, h0]
    omega

theorem wrapu64 (x : Int) : IntKind.u64.wrap x = x % 18446744073709551616 := by
  simp [IntKind.wrap, IntKind.signed, IntKind.bits]

theorem all_shr (a j : Nat) : (18446744073709551615 / 2 ^ a).testBit j = decide (j + a < 64) := by
  rw [Nat.testBit_div_two_pow, show (18446744073709551615 : Nat) = 2 ^ 64 - 1 from rfl, Nat.testBit_two_pow_sub_one]
theorem all_shl (b j : Nat) : (18446744073709551615 * 2 ^ b % 18446744073709551616).testBit j = (decide (j < 64) && decide (b ≤ j)) := by
  rw [show (18446744073709551616 : Nat) = 2 ^ 64 from rfl, Nat.testBit_mod_two_pow, Nat.testBit_mul_two_pow, show (18446744073709551615 : Nat) = 2 ^ 64 - 1 from rfl, Nat.testBit_two_pow_sub_one]
  by_cases h1 : j < 64 <;> by_cases h2 : b ≤ j <;> simp [h1, h2]
  omega
theorem cast_div_pow (c a : Nat) : (c : Int) / 2 ^ a = ((c / 2 ^ a : Nat) : Int) := by push_cast; rfl
theorem cast_mul_pow (c b m : Nat) : (c : Int) * 2 ^ b % (m : Int) = ((c * 2 ^ b % m : Nat) : Int) := by push_cast; rfl
theorem mask_num (a b : Nat) (_hb : b < 64) : bits .and .u64 ((18446744073709551615 : Int) / 2 ^ a) (IntKind.u64.wrap (18446744073709551615 * 2 ^ b)) = ((wordOf fun i => decide (a ≤ i ∧ i + b < 64) : Nat) : Int) := by
  have h1 : (18446744073709551615 : Int) / 2 ^ a = ((18446744073709551615 / 2 ^ a : Nat) : Int) := cast_div_pow 18446744073709551615 a
  have h2 : IntKind.u64.wrap (18446744073709551615 * 2 ^ b) = ((18446744073709551615 * 2 ^ b % 18446744073709551616 : Nat) : Int) := by rw [wrapu64]; exact cast_mul_pow 18446744073709551615 b 18446744073709551616
  have l1 : 18446744073709551615 / 2 ^ a < 18446744073709551616 := Nat.lt_of_le_of_lt (Nat.div_le_self _ _) (by omega)
  have l2 : 18446744073709551615 * 2 ^ b % 18446744073709551616 < 18446744073709551616 := Nat.mod_lt _ (by omega)
  rw [h1, h2, u64_and_nat _ _ l1 l2]
  congr 1
  refine word_eq (Nat.lt_of_le_of_lt Nat.and_le_left l1) ?_
  intro k hk
  rw [Nat.testBit_and, all_shr, all_shl]
  by_cases h3 : a ≤ k <;> by_cases h4 : k + b < 64 <;> simp [h3, h4] <;> omega
theorem mask_num0 (b : Nat) (hb : b < 64) : bits .and .u64 18446744073709551615 (IntKind.u64.wrap (18446744073709551615 * 2 ^ b)) = ((wordOf fun i => decide (0 ≤ i ∧ i + b < 64) : Nat) : Int) := by
  rw [← mask_num 0 b hb]; simp
theorem mask_num1 (a : Nat) : bits .and .u64 ((18446744073709551615 : Int) / 2 ^ a) 18446744073709551615 = ((wordOf fun i => decide (a ≤ i ∧ i + 0 < 64) : Nat) : Int) := by
  rw [← mask_num a 0 (by omega)]; rw [show IntKind.u64.wrap (18446744073709551615 * 2 ^ 0) = 18446744073709551615 from by decide]
theorem mask_num2 : bits .and .u64 18446744073709551615 18446744073709551615 = ((wordOf fun i => decide (0 ≤ i ∧ i + 0 < 64) : Nat) : Int) := by
  rw [← mask_num1 0]; simp
theorem pad_num (p : Nat) (h : p < 64) : IntKind.u64.wrap (IntKind.u64.wrap (2 ^ p) - 1) = ((2 ^ p - 1 : Nat) : Int) := by
  have h1 : (2 : Nat) ^ p < 2 ^ 64 := Nat.pow_lt_pow_right (by omega) h
  have h2 : 0 < (2 : Nat) ^ p := Nat.two_pow_pos p
  have h3 : (2 : Int) ^ p = ((2 ^ p : Nat) : Int) := by push_cast; rfl
  rw [wrapu64, wrapu64, h3]
  generalize (2 : Nat) ^ p = X at *
  omega

set_option maxRecDepth 100000 in
set_option maxHeartbeats 1000000 in
theorem maskOf_any (fr : Int) (to n k : Nat) (w : World) (h : to ≤ 4194304) (hn : n ≤ 4194304) (h1 : to < 64 * k + 64) (h2 : 64 * k < to + n) :
    Calls Try.prog 56 #[.agg #[.int .i64 fr, .int .i64 to, .int .i64 n], .int .i64 k] w fun e w' => e = .returned (.int .u64 (wordOf fun i => decide (to ≤ 64 * k + i ∧ 64 * k + i < to + n) : Nat)) ∧ Fr (fun _ => False) w w' := by
  by_cases ha : (to : Int) - (k : Int) * 64 < 0
  · by_cases hb : 0 ≤ ((k : Int) + 1) * 64 - (to : Int) - (n : Int)
    · go_enter Try.func56, Try.ntmps56
      go_wp2
      go_region
      go_wp2
      go_ret
      refine ⟨congrArg (fun x => Ending.returned (Value.int .u64 x)) ((mask_num0 _ (by omega)).trans (congrArg Nat.cast (wordOf_congr fun i hi => decide_eq_decide.2 ?_))), ((Fr.refl _ _).alloc _).drewN _⟩
      omega
    · go_enter Try.func56, Try.ntmps56
      go_wp2
      go_region
      go_wp2
      go_ret
      refine ⟨congrArg (fun x => Ending.returned (Value.int .u64 x)) ((mask_num2).trans (congrArg Nat.cast (wordOf_congr fun i hi => decide_eq_decide.2 ?_))), ((Fr.refl _ _).alloc _).drewN _⟩
      omega
  · by_cases hb : 0 ≤ ((k : Int) + 1) * 64 - (to : Int) - (n : Int)
    · go_enter Try.func56, Try.ntmps56
      go_wp2
      go_region
      go_wp2
      go_ret
      refine ⟨congrArg (fun x => Ending.returned (Value.int .u64 x)) ((mask_num _ _ (by omega)).trans (congrArg Nat.cast (wordOf_congr fun i hi => decide_eq_decide.2 ?_))), ((Fr.refl _ _).alloc _).drewN _⟩
      omega
    · go_enter Try.func56, Try.ntmps56
      go_wp2
      go_region
      go_wp2
      go_ret
      refine ⟨congrArg (fun x => Ending.returned (Value.int .u64 x)) ((mask_num1 _).trans (congrArg Nat.cast (wordOf_congr fun i hi => decide_eq_decide.2 ?_))), ((Fr.refl _ _).alloc _).drewN _⟩
      omega


set_option maxRecDepth 100000 in
set_option maxHeartbeats 1000000 in
theorem gap_any (a b : Int) (w : World) (ha : -9223372036854775808 ≤ a ∧ a ≤ 9223372036854775807) (hb : -9223372036854775808 ≤ b ∧ b ≤ 9223372036854775807) :
    Calls Try.prog 57 #[.int .i64 a, .int .i64 b] w fun e w' => e = .returned (.int .u64 ((b - a).toNat : Nat)) ∧ w' = w := by
  by_cases h0 : b ≤ a
  · go_enter Try.func57, Try.ntmps57
    go_wp2
    go_ret
    exact ⟨by simp; omega, rfl⟩
  · go_enter Try.func57, Try.ntmps57
    go_wp2
    go_ret
    exact ⟨by simp [wrapu64]; omega, rfl⟩

end Go.Proofs.Ytpblenebmjmijaa
