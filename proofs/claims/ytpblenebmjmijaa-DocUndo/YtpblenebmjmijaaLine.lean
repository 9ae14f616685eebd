/- What 'lay' stands on: lines of words, operations. -/
import Derived.Test.YtpblenebmjmijaaPaint
import Derived.Deep.RegionHeld3
namespace Go.Proofs.Ytpblenebmjmijaa
open Go.RowKit

theorem cell_of_three {w : World} {b : Nat} {x y z : Value} {t : TypeId} (h : w.heap[b]? = some (.cells #[x, y, z] t (0, 0))) :
    w.cell? ⟨b, 0, none⟩ = some x ∧ w.cell? ⟨b, 1, none⟩ = some y ∧ w.cell? ⟨b, 2, none⟩ = some z ∧ (∀ j, w.frozen? ⟨b, j, none⟩ = false) := by
  refine ⟨?_, ?_, ?_, fun j => ?_⟩ <;> simp [World.cell?, World.frozen?, h]

/-- The pixel at place p of a line of words. -/
def linePix (l : List Nat) (p : Nat) : Bool := (l[p / 64]?.getD 0).testBit (63 - p % 64)

theorem shift_word (A B sh i : Nat) (hB : B < 18446744073709551616) (hsh : sh < 64) (hi : i < 64) : ((A * 2 ^ sh % 18446744073709551616) ||| (B / 2 ^ (64 - sh))).testBit (63 - i) = if i + sh < 64 then A.testBit (63 - (i + sh)) else B.testBit (63 - (i + sh - 64)) := by
  rw [Nat.testBit_or, show (18446744073709551616 : Nat) = 2 ^ 64 from rfl, Nat.testBit_mod_two_pow, Nat.testBit_mul_two_pow, Nat.testBit_div_two_pow]
  by_cases h : i + sh < 64
  · rw [if_pos h, decide_eq_true (show 63 - i < 64 by omega), decide_eq_true (show sh ≤ 63 - i by omega), show 63 - i - sh = 63 - (i + sh) from by omega]
    have : B.testBit (63 - i + (64 - sh)) = false := Nat.testBit_lt_two_pow (Nat.lt_of_lt_of_le hB (by rw [show (18446744073709551616 : Nat) = 2 ^ 64 from rfl]; exact Nat.pow_le_pow_right (by omega) (by omega)))
    simp [this]
  · rw [if_neg h, decide_eq_false (show ¬ sh ≤ 63 - i by omega), show 63 - i + (64 - sh) = 63 - (i + sh - 64) from by omega]
    simp

theorem shift_pix (l : List Nat) (st k i : Nat) (hi : i < 64) : (if i + st % 64 < 64 then (l[st / 64 + k]?.getD 0).testBit (63 - (i + st % 64)) else (l[st / 64 + k + 1]?.getD 0).testBit (63 - (i + st % 64 - 64))) = linePix l (st + 64 * k + i) := by
  unfold linePix
  by_cases h : i + st % 64 < 64
  · rw [if_pos h, show (st + 64 * k + i) / 64 = st / 64 + k from by omega, show (st + 64 * k + i) % 64 = i + st % 64 from by omega]
  · rw [if_neg h, show (st + 64 * k + i) / 64 = st / 64 + k + 1 from by omega, show (st + 64 * k + i) % 64 = i + st % 64 - 64 from by omega]

/-- What an operation is: on words and on pixels. -/
structure IsOp (f : Nat) (opw : Nat → Nat → Nat) (opb : Bool → Bool → Bool) : Prop where
  run : ∀ (d s : Nat) (w : World), d < 18446744073709551616 → s < 18446744073709551616 → Calls Try.prog f #[.int .u64 d, .int .u64 s] w fun e w' => e = .returned (.int .u64 (opw d s : Nat)) ∧ w' = w
  lt : ∀ d s, d < 18446744073709551616 → s < 18446744073709551616 → opw d s < 18446744073709551616
  bit : ∀ d s i, d < 18446744073709551616 → s < 18446744073709551616 → i < 64 → (opw d s).testBit i = opb (d.testBit i) (s.testBit i)

/-- A line: its words lie in a block of their own. -/
structure LineAt (w : World) (gl : Nat) (l : List Nat) : Prop where
  cell : ∀ j, j < l.length → w.cell? ⟨gl, j, none⟩ = some (.int .u64 (l[j]?.getD 0 : Nat))
  lt : ∀ j : Nat, l[j]?.getD 0 < 18446744073709551616
  blk : gl < w.heap.size
theorem LineAt.kept {S : Nat → Prop} {w w' : World} {gl : Nat} {l : List Nat} (h : LineAt w gl l) (f : Fr S w w') (hs : ¬ S gl) : LineAt w' gl l :=
  ⟨fun j hj => by rw [f.cell h.blk hs]; exact h.cell j hj, h.lt, Nat.lt_of_lt_of_le h.blk f.size⟩


theorem not_nat (X : Nat) (hX : X < 18446744073709551616) : 18446744073709551615 ^^^ X = 18446744073709551615 - X := by
  apply Nat.eq_of_testBit_eq
  intro i
  rw [Nat.testBit_xor, show 18446744073709551615 - X = 2 ^ 64 - (X + 1) from by omega, Nat.testBit_two_pow_sub_succ hX, show (18446744073709551615 : Nat) = 2 ^ 64 - 1 from rfl, Nat.testBit_two_pow_sub_one]
  by_cases hi : i < 64
  · simp [hi]
  · have : X.testBit i = false := Nat.testBit_lt_two_pow (Nat.lt_of_lt_of_le hX (by rw [show (18446744073709551616 : Nat) = 2 ^ 64 from rfl]; exact Nat.pow_le_pow_right (by omega) (by omega)))
    simp [hi, this]
theorem not_num (X : Nat) (hX : X < 18446744073709551616) : bits .xor .u64 IntKind.u64.max (X : Int) = ((18446744073709551615 - X : Nat) : Int) := by
  rw [← not_nat X hX]
  exact u64_xor_nat 18446744073709551615 X (by omega) hX

set_option maxRecDepth 100000 in
set_option maxHeartbeats 1000000 in
theorem isOr : IsOp 58 (fun d s => d ||| s) (fun d s => d || s) := by
  refine ⟨fun d s w hd hs => ?_, fun d s hd hs => Nat.or_lt_two_pow (n := 64) hd hs, fun d s i _ _ _ => Nat.testBit_or _ _ _⟩
  have k1 := u64_or_nat d s hd hs
  go_enter Try.func58, Try.ntmps58
  go_wp2
  go_ret
  exact ⟨rfl, rfl⟩
set_option maxRecDepth 100000 in
set_option maxHeartbeats 1000000 in
theorem isAnd : IsOp 59 (fun d s => d &&& s) (fun d s => d && s) := by
  refine ⟨fun d s w hd hs => ?_, fun d s hd _ => Nat.lt_of_le_of_lt Nat.and_le_left hd, fun d s i _ _ _ => Nat.testBit_and _ _ _⟩
  have k1 := u64_and_nat d s hd hs
  go_enter Try.func59, Try.ntmps59
  go_wp2
  go_ret
  exact ⟨rfl, rfl⟩
set_option maxRecDepth 100000 in
set_option maxHeartbeats 1000000 in
theorem isXor : IsOp 60 (fun d s => d ^^^ s) (fun d s => xor d s) := by
  refine ⟨fun d s w hd hs => ?_, fun d s hd hs => Nat.xor_lt_two_pow (n := 64) hd hs, fun d s i _ _ _ => Nat.testBit_xor _ _ _⟩
  have k1 := u64_xor_nat d s hd hs
  go_enter Try.func60, Try.ntmps60
  go_wp2
  go_ret
  exact ⟨rfl, rfl⟩
set_option maxRecDepth 100000 in
set_option maxHeartbeats 1000000 in
theorem isXnor : IsOp 61 (fun d s => 18446744073709551615 - (d ^^^ s)) (fun d s => !(xor d s)) := by
  refine ⟨fun d s w hd hs => ?_, fun d s hd hs => by omega, fun d s i hd hs hi => ?_⟩
  · have k1 := u64_xor_nat d s hd hs
    have hx : d ^^^ s < 18446744073709551616 := Nat.xor_lt_two_pow (n := 64) hd hs
    have k2 := not_num (d ^^^ s) hx
    generalize d ^^^ s = X at *
    generalize 18446744073709551615 - X = Y at *
    go_enter Try.func61, Try.ntmps61
    go_wp2
    go_ret
    exact ⟨rfl, rfl⟩
  · have hx : d ^^^ s < 2 ^ 64 := Nat.xor_lt_two_pow (n := 64) hd hs
    rw [show 18446744073709551615 - (d ^^^ s) = 2 ^ 64 - ((d ^^^ s) + 1) from by omega, Nat.testBit_two_pow_sub_succ hx, Nat.testBit_xor]
    simp [hi]
set_option maxRecDepth 100000 in
set_option maxHeartbeats 1000000 in
theorem isReplace : IsOp 62 (fun _ s => s) (fun _ s => s) := by
  refine ⟨fun d s w _ _ => ?_, fun d s _ hs => hs, fun d s i _ _ _ => rfl⟩
  go_enter Try.func62, Try.ntmps62
  go_wp2
  go_ret
  exact ⟨rfl, rfl⟩

end Go.Proofs.Ytpblenebmjmijaa
