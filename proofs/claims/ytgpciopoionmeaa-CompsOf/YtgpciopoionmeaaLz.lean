/- 'Len64', 'LeadingZeros64'. -/
import Derived.Lib.Strings
import Derived.Lib.Slices
import Derived.Lib.Small
import Derived.Lib.Walk
import Derived.Test.YtgpciopoionmeaaProg
import Derived.Test.YtgpciopoionmeaaRm
namespace Go.Proofs.Ytgpciopoionmeaa

/-- A byte of a number, and how many bits lie below it. -/
theorem len_byte (x y : Int) (k : Nat) (hk : k ≤ 56) (h0 : 0 ≤ x) (h1 : x < 18446744073709551616) (hy : y = x / 2 ^ k) (hb : y < 256) (hg : k = 0 ∨ 2 ^ k ≤ x.toNat) : (k : Int) + Lib.len8 (y % 256) = (Lib.bitLen x.toNat : Int) ∧ Lib.bitLen x.toNat ≤ 64 := by
  have e0 : x = (x.toNat : Int) := by omega
  have hp : (2 : Int) ^ k = ((2 ^ k : Nat) : Int) := by push_cast; rfl
  have e1 : y = ((x.toNat / 2 ^ k : Nat) : Int) := by rw [hy, hp, e0, Int.toNat_natCast]; push_cast; rfl
  have y0 : 0 ≤ y := by rw [e1]; exact Int.natCast_nonneg _
  have e2 : y % 256 = ((x.toNat / 2 ^ k : Nat) : Int) := by rw [← e1]; exact Int.emod_eq_of_lt y0 hb
  have hl : Lib.bitLen x.toNat ≤ 64 := Lib.bitLen_le _ 64 (by omega) (by omega)
  refine ⟨?_, hl⟩
  rw [Lib.len8_of _ (by omega) (by omega), e2, Int.toNat_natCast]
  rcases hg with rfl | hg
  · simp
  · rw [Lib.bitLen_shift k x.toNat hg (by omega)]; omega

set_option maxHeartbeats 4000000 in
set_option maxRecDepth 100000 in
theorem len64_any (x : Int) (w : World) (h0 : 0 ≤ x) (h1 : x < 18446744073709551616) :
    Calls Try.prog 83 #[.int .u64 x] w fun e w' => e = .returned (.int .i64 (Lib.bitLen x.toNat)) ∧ w' = w := by
  go_enter Try.func83, Try.ntmps83
  go_wp2
  all_goals (go_ret; refine ⟨congrArg Ending.returned (congrArg (Value.int IntKind.i64) ?_), rfl⟩)
  all_goals first
    | (have l := len_byte x (x / 4294967296 / 65536 / 256) 56 (by omega) h0 h1 (by omega) (by omega) (Or.inr (by omega)); omega)
    | (have l := len_byte x (x / 4294967296 / 65536) 48 (by omega) h0 h1 (by omega) (by omega) (Or.inr (by omega)); omega)
    | (have l := len_byte x (x / 4294967296 / 256) 40 (by omega) h0 h1 (by omega) (by omega) (Or.inr (by omega)); omega)
    | (have l := len_byte x (x / 4294967296) 32 (by omega) h0 h1 (by omega) (by omega) (Or.inr (by omega)); omega)
    | (have l := len_byte x (x / 65536 / 256) 24 (by omega) h0 h1 (by omega) (by omega) (Or.inr (by omega)); omega)
    | (have l := len_byte x (x / 65536) 16 (by omega) h0 h1 (by omega) (by omega) (Or.inr (by omega)); omega)
    | (have l := len_byte x (x / 256) 8 (by omega) h0 h1 (by omega) (by omega) (Or.inr (by omega)); omega)
    | (have l := len_byte x x 0 (by omega) h0 h1 (by omega) (by omega) (Or.inl rfl); omega)

set_option maxHeartbeats 1000000 in
set_option maxRecDepth 100000 in
theorem leading_any (x : Int) (w : World) (h0 : 0 ≤ x) (h1 : x < 18446744073709551616) :
    Calls Try.prog 70 #[.int .u64 x] w fun e w' => e = .returned (.int .i64 (64 - Lib.bitLen x.toNat : Nat)) ∧ w' = w := by
  have l := (bitLen_bits x.toNat (by omega)).1
  go_enter Try.func70, Try.ntmps70
  go_wp2_with (go_at_call 83; refine (len64_any x _ h0 h1).mono ?_; rintro e w' ⟨rfl, rfl⟩)
  go_ret
  refine ⟨congrArg Ending.returned (congrArg (Value.int IntKind.i64) ?_), rfl⟩
  omega

end Go.Proofs.Ytgpciopoionmeaa
