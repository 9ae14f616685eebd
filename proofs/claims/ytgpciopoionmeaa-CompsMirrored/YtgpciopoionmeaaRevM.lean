/- 'Reverse64': the bits of a word, the last one first. -/
import Derived.Test.YtgpciopoionmeaaSpan
namespace Go.Proofs.Ytgpciopoionmeaa
open Go.RowKit

def swp (k m x : Nat) : Nat := ((x / 2 ^ k) &&& m) ||| ((x &&& m) * 2 ^ k % 18446744073709551616)
def px (k i : Nat) : Nat := if i / k % 2 = 0 then i + k else i - k

theorem swp_lt (k m x : Nat) (hm : m < 18446744073709551616) : swp k m x < 18446744073709551616 :=
  Nat.or_lt_two_pow (n := 64) (Nat.lt_of_le_of_lt Nat.and_le_right hm) (Nat.mod_lt _ (by omega))
theorem swp_bit (k m x i : Nat) (hi : i < 64) (hk : 0 < k) (hm : ∀ j, j < 64 → m.testBit j = decide (j / k % 2 = 0)) (hq : k ≤ i → i / k % 2 = 0 → (i - k) / k % 2 ≠ 0) (hr : i / k % 2 ≠ 0 → k ≤ i ∧ (i - k) / k % 2 = 0) : (swp k m x).testBit i = x.testBit (px k i) := by
  unfold swp px
  rw [Nat.testBit_or, Nat.testBit_and, Nat.testBit_div_two_pow, show (18446744073709551616 : Nat) = 2 ^ 64 from rfl, Nat.testBit_mod_two_pow, Nat.testBit_mul_two_pow, Nat.testBit_and, hm i hi]
  by_cases h : i / k % 2 = 0
  · rw [if_pos h, decide_eq_true h]
    by_cases h2 : k ≤ i
    · rw [hm (i - k) (by omega), decide_eq_false (hq h2 h)]; simp
    · simp [h2]
  · obtain ⟨h2, h3⟩ := hr h
    rw [if_neg h, decide_eq_false h, hm (i - k) (by omega), decide_eq_true h3]
    simp [hi, h2]

def rev (x : Nat) : Nat := wordOf fun i => x.testBit i
theorem rev_lt (x : Nat) : rev x < 18446744073709551616 := wordOf_lt _
theorem rev_bit (x i : Nat) (hi : i < 64) : (rev x).testBit (63 - i) = x.testBit i := bit_wordOf _ _ hi

def last32 (x : Nat) : Nat := (x / 2 ^ 32) ||| (x * 2 ^ 32 % 18446744073709551616)
theorem last32_bit (x i : Nat) (hx : x < 18446744073709551616) (hi : i < 64) : (last32 x).testBit i = x.testBit (px 32 i) := by
  unfold last32 px
  rw [Nat.testBit_or, Nat.testBit_div_two_pow, show (18446744073709551616 : Nat) = 2 ^ 64 from rfl, Nat.testBit_mod_two_pow, Nat.testBit_mul_two_pow]
  by_cases h : i < 32
  · rw [if_pos (by omega)]
    simp [show ¬ 32 ≤ i from by omega]
  · rw [if_neg (by omega)]
    have : x.testBit (i + 32) = false := Nat.testBit_lt_two_pow (Nat.lt_of_lt_of_le hx (by rw [show (18446744073709551616 : Nat) = 2 ^ 64 from rfl]; exact Nat.pow_le_pow_right (by omega) (by omega)))
    simp [this, hi, show 32 ≤ i from by omega]

theorem masks : (∀ j, j < 64 → (6148914691236517205 : Nat).testBit j = decide (j / 1 % 2 = 0)) ∧ (∀ j, j < 64 → (3689348814741910323 : Nat).testBit j = decide (j / 2 % 2 = 0)) ∧ (∀ j, j < 64 → (1085102592571150095 : Nat).testBit j = decide (j / 4 % 2 = 0)) ∧ (∀ j, j < 64 → (71777214294589695 : Nat).testBit j = decide (j / 8 % 2 = 0)) ∧ (∀ j, j < 64 → (281470681808895 : Nat).testBit j = decide (j / 16 % 2 = 0)) := by decide +kernel
theorem steps : ∀ k ∈ [1, 2, 4, 8, 16], ∀ i, i < 64 → (k ≤ i → i / k % 2 = 0 → (i - k) / k % 2 ≠ 0) ∧ (i / k % 2 ≠ 0 → k ≤ i ∧ (i - k) / k % 2 = 0) := by decide +kernel
theorem px_lt : ∀ k ∈ [1, 2, 4, 8, 16, 32], ∀ i, i < 64 → px k i < 64 := by decide +kernel
theorem px_all : ∀ i, i < 64 → px 1 (px 2 (px 4 (px 8 (px 16 (px 32 i))))) = 63 - i := by decide +kernel

theorem rev_road (x : Nat) : last32 (swp 16 281470681808895 (swp 8 71777214294589695 (swp 4 1085102592571150095 (swp 2 3689348814741910323 (swp 1 6148914691236517205 x))))) = rev x := by
  obtain ⟨m1, m2, m3, m4, m5⟩ := masks
  have l5 := swp_lt 16 281470681808895 (swp 8 71777214294589695 (swp 4 1085102592571150095 (swp 2 3689348814741910323 (swp 1 6148914691236517205 x)))) (by omega)
  refine word_eq (Nat.or_lt_two_pow (n := 64) (Nat.lt_of_le_of_lt (Nat.div_le_self _ _) l5) (Nat.mod_lt _ (by omega))) ?_
  intro k hk
  have h63 : 63 - k < 64 := by omega
  rw [last32_bit _ _ l5 h63]
  have a5 := px_lt 32 (by decide) _ h63
  rw [swp_bit 16 _ _ _ a5 (by omega) m5 (steps 16 (by decide) _ a5).1 (steps 16 (by decide) _ a5).2]
  have a4 := px_lt 16 (by decide) _ a5
  rw [swp_bit 8 _ _ _ a4 (by omega) m4 (steps 8 (by decide) _ a4).1 (steps 8 (by decide) _ a4).2]
  have a3 := px_lt 8 (by decide) _ a4
  rw [swp_bit 4 _ _ _ a3 (by omega) m3 (steps 4 (by decide) _ a3).1 (steps 4 (by decide) _ a3).2]
  have a2 := px_lt 4 (by decide) _ a3
  rw [swp_bit 2 _ _ _ a2 (by omega) m2 (steps 2 (by decide) _ a2).1 (steps 2 (by decide) _ a2).2]
  have a1 := px_lt 2 (by decide) _ a2
  rw [swp_bit 1 _ _ _ a1 (by omega) m1 (steps 1 (by decide) _ a1).1 (steps 1 (by decide) _ a1).2]
  rw [px_all _ h63, show 63 - (63 - k) = k from by omega]

theorem shl_nat (b k : Nat) : IntKind.u64.wrap ((b : Int) * 2 ^ k) = ((b * 2 ^ k % 18446744073709551616 : Nat) : Int) := by rw [wrapu64]; exact cast_mul_pow b k 18446744073709551616

end Go.Proofs.Ytgpciopoionmeaa
