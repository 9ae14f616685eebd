/- 'May': may a bitmap be, by the document's own answer? -/
import Derived.Test.YtodgdbbhllejkabCheck
namespace Go.Proofs.Ytodgdbbhllejkab
open Go.RowKit


theorem shl_zero (x r : Nat) (hr : r < 64) (h0 : 0 < r) : x * 2 ^ r % 18446744073709551616 = 0 ↔ x % 2 ^ (64 - r) = 0 := by
  have e : (18446744073709551616 : Nat) = 2 ^ (64 - r) * 2 ^ r := by rw [← Nat.pow_add, show 64 - r + r = 64 from by omega]
  rw [e, Nat.mul_mod_mul_right]
  have : 0 < 2 ^ r := Nat.two_pow_pos r
  constructor
  · intro h
    rcases Nat.mul_eq_zero.1 h with h | h
    · exact h
    · omega
  · intro h; rw [h]; simp

end Go.Proofs.Ytodgdbbhllejkab
