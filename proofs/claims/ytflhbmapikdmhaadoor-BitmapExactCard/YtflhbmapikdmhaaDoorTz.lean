/- 'TrailingZeros64': by a table that lies in memory. -/
import Derived.Test.YtflhbmapikdmhaaDoorSpan
namespace Go.Proofs.YtflhbmapikdmhaaDoor
open Go.RowKit

/-- How many noughts stand behind the last 1. -/
def tz : Nat → Nat → Nat
  | 0, _ => 0
  | n + 1, x => if x % 2 = 1 then 0 else tz n (x / 2) + 1

theorem tz_form : ∀ (n x : Nat), 0 < x → x < 2 ^ n → ∃ m, x = 2 ^ tz n x * (2 * m + 1) ∧ tz n x < n
  | 0, x, h1, h2 => by simp at h2; omega
  | n + 1, x, h1, h2 => by
    unfold tz
    by_cases h : x % 2 = 1
    · rw [if_pos h]
      exact ⟨x / 2, by simp; omega, by omega⟩
    · rw [if_neg h]
      obtain ⟨m, e, l⟩ := tz_form n (x / 2) (by omega) (by rw [Nat.pow_succ] at h2; omega)
      refine ⟨m, ?_, by omega⟩
      rw [Nat.pow_succ, Nat.mul_comm (2 ^ _) 2, Nat.mul_assoc, ← e]
      omega

/-- The bits of a number, and of the one before it. -/
theorem tz_bits {x t m : Nat} (e : x = 2 ^ t * (2 * m + 1)) (i : Nat) : x.testBit i = (if i < t then false else if i = t then true else m.testBit (i - t - 1)) ∧ (x - 1).testBit i = (if i < t then true else if i = t then false else m.testBit (i - t - 1)) := by
  have hp : 0 < 2 ^ t := Nat.two_pow_pos t
  have e1 : x = 2 ^ t * (2 * m + 1) + 0 := by omega
  have e2 : x - 1 = 2 ^ t * (2 * m) + (2 ^ t - 1) := by rw [e, Nat.mul_add, Nat.mul_one]; omega
  constructor
  · rw [e1, Nat.testBit_two_pow_mul_add _ hp]
    by_cases h : i < t
    · rw [if_pos h, if_pos h]; simp
    · rw [if_neg h, if_neg h]
      by_cases h2 : i = t
      · rw [if_pos h2, h2, Nat.sub_self, Nat.testBit_zero]; simp
      · rw [if_neg h2, show i - t = (i - t - 1) + 1 from by omega, Nat.testBit_succ, show (2 * m + 1) / 2 = m from by omega]
        rfl
  · rw [e2, Nat.testBit_two_pow_mul_add _ (by omega)]
    by_cases h : i < t
    · rw [if_pos h, if_pos h, Nat.testBit_two_pow_sub_one]; simp [h]
    · rw [if_neg h, if_neg h]
      by_cases h2 : i = t
      · rw [if_pos h2, h2, Nat.sub_self, Nat.testBit_zero]; simp
      · rw [if_neg h2, show i - t = (i - t - 1) + 1 from by omega, Nat.testBit_succ, show (2 * m) / 2 = m from by omega]
        rfl

theorem low_bit (x : Nat) (h1 : 0 < x) (h2 : x < 18446744073709551616) : x &&& (18446744073709551616 - x) = 2 ^ tz 64 x := by
  obtain ⟨m, e, l⟩ := tz_form 64 x h1 h2
  apply Nat.eq_of_testBit_eq
  intro i
  obtain ⟨b1, b2⟩ := tz_bits e i
  rw [Nat.testBit_and, show 18446744073709551616 - x = 2 ^ 64 - ((x - 1) + 1) from by omega, Nat.testBit_two_pow_sub_succ (by omega), b1, b2, Nat.testBit_two_pow]
  by_cases h : i < tz 64 x
  · rw [if_pos h]; simp; omega
  · rw [if_neg h, if_neg h]
    by_cases h3 : i = tz 64 x
    · rw [if_pos h3, if_pos h3, h3]; simp; exact l
    · rw [if_neg h3, if_neg h3]
      cases m.testBit (i - tz 64 x - 1) <;> simp <;> omega

/-- The lowest 1 is taken away. -/
theorem clear_bit (x : Nat) (h1 : 0 < x) (h2 : x < 18446744073709551616) (i : Nat) : (x &&& (x - 1)).testBit i = (x.testBit i && decide (i ≠ tz 64 x)) := by
  obtain ⟨m, e, l⟩ := tz_form 64 x h1 h2
  obtain ⟨b1, b2⟩ := tz_bits e i
  rw [Nat.testBit_and, b1, b2]
  by_cases h : i < tz 64 x
  · rw [if_pos h]; simp
  · rw [if_neg h, if_neg h]
    by_cases h3 : i = tz 64 x
    · rw [if_pos h3, if_pos h3]; simp [h3]
    · rw [if_neg h3, if_neg h3]; simp [h3]
theorem tz_set (x : Nat) (h1 : 0 < x) (h2 : x < 18446744073709551616) : x.testBit (tz 64 x) = true ∧ tz 64 x < 64 := by
  obtain ⟨m, e, l⟩ := tz_form 64 x h1 h2
  obtain ⟨b1, _⟩ := tz_bits e (tz 64 x)
  rw [b1, if_neg (Nat.lt_irrefl _), if_pos rfl]
  exact ⟨rfl, l⟩

def tabAt (t : Nat) : Nat := 2 ^ t * 285870213051353865 % 18446744073709551616 / 288230376151711744
theorem tabAt_lt (t : Nat) : tabAt t < 64 := by
  unfold tabAt
  have := Nat.mod_lt (2 ^ t * 285870213051353865) (show 0 < 18446744073709551616 by omega)
  omega

/-- The table lies in memory. -/
def Tab (w : World) : Prop := ∀ t, t < 64 → w.cell? ⟨0, tabAt t, none⟩ = some (.int .u8 t)
theorem Tab.kept {S : Nat → Prop} {w w' : World} (h : Tab w) (f : Fr S w w') (h0 : 0 < w.heap.size) (hs : ¬ S 0) : Tab w' := fun t ht => by
  unfold World.cell?
  rw [f.block 0 h0 hs]
  exact h t ht

set_option maxRecDepth 100000 in
set_option maxHeartbeats 1000000 in
theorem tz_any (x : Nat) (w : World) (h1 : 0 < x) (h2 : x < 18446744073709551616) (hT : Tab w) :
    Calls Tryd.prog 49 #[.int .u64 x] w fun e w' => e = .returned (.int .i64 (tz 64 x : Nat)) ∧ w' = w := by
  obtain ⟨_, hl⟩ := tz_set x h1 h2
  have hlb := low_bit x h1 h2
  have hc := hT _ hl
  have hal := tabAt_lt (tz 64 x)
  obtain ⟨T, hTT⟩ : ∃ T, T = tz 64 x := ⟨_, rfl⟩
  rw [← hTT] at hl hlb hc hal ⊢
  clear hTT
  obtain ⟨nx, hnx⟩ : ∃ nx, nx = 18446744073709551616 - x := ⟨_, rfl⟩
  rw [← hnx] at hlb
  have k1 : IntKind.u64.wrap (-(x : Int)) = (nx : Int) := by rw [wrapu64]; omega
  obtain ⟨lo, hlo⟩ : ∃ lo, lo = 2 ^ T := ⟨_, rfl⟩
  have hlol : lo < 18446744073709551616 := by rw [hlo]; exact Nat.pow_lt_pow_right (by omega) (show T < 64 from hl)
  have k2 : bits .and .u64 (x : Int) (nx : Int) = (lo : Int) := by rw [hlo, ← hlb]; exact u64_and_nat x nx h2 (by omega)
  obtain ⟨pr, hpr⟩ : ∃ pr, pr = lo * 285870213051353865 % 18446744073709551616 := ⟨_, rfl⟩
  have k3 : IntKind.u64.wrap ((lo : Int) * 285870213051353865) = (pr : Int) := by rw [wrapu64, hpr]; omega
  have hta : tabAt T = pr / 288230376151711744 := by unfold tabAt; rw [hpr, hlo]
  rw [hta] at hc hal
  obtain ⟨ix, hix⟩ : ∃ ix, ix = pr / 288230376151711744 := ⟨_, rfl⟩
  rw [← hix] at hc hal
  have k4 : (pr : Int) / 288230376151711744 = (ix : Int) := by rw [hix]; omega
  have g1 : (0 : Int) ≤ (ix : Int) := by omega
  have g2 : (ix : Int) < 64 := by omega
  have g3 : ((x : Int) == 0) = false := by simp; omega
  clear hlb hnx hlo hpr hta hix hT hlol h2
  go_enter Tryd.func49, Tryd.ntmps49
  go_wp2
  go_ret
  exact ⟨rfl, rfl⟩

end Go.Proofs.YtflhbmapikdmhaaDoor
