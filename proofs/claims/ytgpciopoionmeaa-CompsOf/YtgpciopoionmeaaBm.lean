/- A bitmap that may be, as it is handed in; what the law's numbers need. -/
import Derived.Test.YtgpciopoionmeaaCheck
namespace Go.Proofs.Ytgpciopoionmeaa
open Go.RowKit

theorem band64 (c k : Nat) (h : c < 9223372036854775808) (hk : k < 63) : bits .and .i64 (c : Int) ((2 ^ k - 1 : Nat) : Int) = ((c % 2 ^ k : Nat) : Int) := by
  have hp : 2 ^ k ≤ 2 ^ 62 := Nat.pow_le_pow_right (by decide) (by omega)
  have e62 : (2 : Nat) ^ 62 = 4611686018427387904 := rfl
  show IntKind.i64.wrap ((BitVec.ofInt 64 (c : Int) &&& BitVec.ofInt 64 ((2 ^ k - 1 : Nat) : Int)).toNat : Int) = _
  rw [BitVec.toNat_and, BitVec.ofInt_natCast, BitVec.ofInt_natCast, BitVec.toNat_ofNat, BitVec.toNat_ofNat, Nat.mod_eq_of_lt (a := c) (by omega), Nat.mod_eq_of_lt (a := 2 ^ k - 1) (by omega), Nat.and_two_pow_sub_one_eq_mod, IntKind.wrap_i64]
  have : c % 2 ^ k < 2 ^ k := Nat.mod_lt _ (Nat.two_pow_pos _)
  omega
theorem bor64_nat (a b : Nat) (ha : a < 4611686018427387904) (hb : b < 4611686018427387904) : bits .or .i64 (a : Int) (b : Int) = ((a ||| b : Nat) : Int) := by
  have hx : a ||| b < 2 ^ 62 := Nat.or_lt_two_pow (by omega) (by omega)
  show IntKind.i64.wrap ((BitVec.ofInt 64 (a : Int) ||| BitVec.ofInt 64 (b : Int)).toNat : Int) = _
  rw [BitVec.toNat_or, BitVec.ofInt_natCast, BitVec.ofInt_natCast, BitVec.toNat_ofNat, BitVec.toNat_ofNat, Nat.mod_eq_of_lt (a := a) (by omega), Nat.mod_eq_of_lt (a := b) (by omega), IntKind.wrap_i64]
  omega
theorem band64_nat (a b : Nat) (ha : a < 4611686018427387904) (hb : b < 4611686018427387904) : bits .and .i64 (a : Int) (b : Int) = ((a &&& b : Nat) : Int) := by
  have hx : a &&& b < 2 ^ 62 := Nat.and_lt_two_pow _ (by omega)
  show IntKind.i64.wrap ((BitVec.ofInt 64 (a : Int) &&& BitVec.ofInt 64 (b : Int)).toNat : Int) = _
  rw [BitVec.toNat_and, BitVec.ofInt_natCast, BitVec.ofInt_natCast, BitVec.toNat_ofNat, BitVec.toNat_ofNat, Nat.mod_eq_of_lt (a := a) (by omega), Nat.mod_eq_of_lt (a := b) (by omega), IntKind.wrap_i64]
  omega
/-- Digits laid behind a number. -/
theorem bor64 (a k b : Nat) (ha : a * 2 ^ k < 4611686018427387904) (hb : b < 2 ^ k) (hk : k < 62) : bits .or .i64 ((a * 2 ^ k : Nat) : Int) (b : Int) = ((a * 2 ^ k + b : Nat) : Int) := by
  have hp : 2 ^ k ≤ 2 ^ 61 := Nat.pow_le_pow_right (by decide) (by omega)
  have e61 : (2 : Nat) ^ 61 = 2305843009213693952 := rfl
  rw [bor64_nat _ _ ha (by omega), Nat.mul_comm a, Nat.two_pow_add_eq_or_of_lt hb]
theorem bor64_one (a b : Nat) (ha : a < 2305843009213693952) (hb : b ≤ 1) : bits .or .i64 ((a : Int) * 2) (b : Int) = ((2 * a + b : Nat) : Int) := by
  have := bor64 a 1 b (by omega) (by omega) (by omega)
  rw [show ((a * 2 ^ 1 : Nat) : Int) = (a : Int) * 2 by omega] at this
  rw [this]; omega

theorem render_lt' (W H : Nat) (P : Nat → Nat → Bool) (j : Nat) : (render W H P)[j]?.getD 0 < 18446744073709551616 := by
  by_cases h : j < H * stride W
  · rw [render_get' P h]; exact wd_lt _ _ _ _
  · rw [List.getElem?_eq_none (by rw [length_render]; omega)]; simp
theorem render_rowOK (W H : Nat) (P : Nat → Nat → Bool) (hW : 1 ≤ W) (j : Nat) (hj : j < H) : rowOK W (render W H P) j := by
  have hS : 0 < stride W := by unfold stride; omega
  unfold rowOK
  have e : (j + 1) * stride W - 1 = j * stride W + (stride W - 1) := by rw [Nat.add_mul, Nat.one_mul]; omega
  rw [e, render_get P hj (by omega), Option.getD_some]
  apply Nat.eq_of_testBit_eq
  intro i
  rw [Nat.testBit_mod_two_pow, Nat.zero_testBit]
  have hs : W ≤ 64 * stride W ∧ 64 * stride W < W + 64 := by unfold stride; omega
  by_cases hi : i < 64 * stride W - W
  · have h63 : i = 63 - (63 - i) := by omega
    unfold wd
    rw [h63, bit_wordOf _ _ (by omega), decide_eq_false (show ¬ (64 * (stride W - 1) + (63 - i) < W) by omega)]
    simp
  · rw [decide_eq_false hi]; rfl
theorem render_valid (W H : Nat) (Q : Nat → Nat → Bool) (h1 : 1 ≤ W) (h2 : 1 ≤ H) (h3 : W * H ≤ 1048576) : validB (W : Int) (H : Int) (render W H Q) = true := by
  have hs : sizeOK (W : Int) (H : Int) = true := by
    unfold sizeOK
    refine decide_eq_true ⟨by omega, by omega, ?_⟩
    rw [← Int.natCast_mul]; omega
  rw [validB_nat W H _ hs, decide_eq_true (length_render W H Q), Bool.true_and]
  exact decide_eq_true (fun j hj => render_rowOK W H Q h1 j hj)

/-- A slice's capacity covers its length. -/
def CapOK (v : Value) : Prop := ∀ ao n c, v = .slice ao n c → n ≤ c ∧ c ≤ maxLen

/-- A bitmap that may be, in memory. -/
structure Bm (w : World) (v : Value) (W H : Nat) (P : Nat → Nat → Bool) : Prop where
  seen : Seen w v (render W H P)
  cap : CapOK v
  h1 : 1 ≤ W
  h2 : 1 ≤ H
  h3 : W * H ≤ 1048576
theorem Bm.kept {w w' : World} {v : Value} {W H : Nat} {P : Nat → Nat → Bool} (h : Bm w v W H P) (f : Fr (fun _ => False) w w') : Bm w' v W H P := ⟨h.seen.kept f, h.cap, h.h1, h.h2, h.h3⟩
theorem Bm.check {w : World} {v : Value} {W H : Nat} {P : Nat → Nat → Bool} (h : Bm w v W H P) : Calls Try.prog 45 #[.agg #[.int .i64 W, .int .i64 H, v]] w fun e w' => e = .returned (.bool true) ∧ Fr (fun _ => False) w w' := by
  obtain ⟨f1, f2, f3⟩ := size_facts h.h1 h.h2 h.h3
  have := check_any W H v _ w (by omega) (by omega) h.seen (render_lt' W H P)
  rwa [render_valid W H P h.h1 h.h2 h.h3] at this

end Go.Proofs.Ytgpciopoionmeaa
