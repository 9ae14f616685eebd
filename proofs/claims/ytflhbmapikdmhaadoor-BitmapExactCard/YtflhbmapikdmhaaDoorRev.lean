/- 'Reverse64', 'ReverseBytes64'. -/
import Derived.Test.YtflhbmapikdmhaaDoorSpan
namespace Go.Proofs.YtflhbmapikdmhaaDoor
open Go.RowKit

def swp (k m x : Nat) : Nat := ((x / 2 ^ k) &&& m) ||| ((x &&& m) * 2 ^ k % 18446744073709551616)
def px (k i : Nat) : Nat := if i / k % 2 = 0 then i + k else i - k

theorem swp_lt (k m x : Nat) (hm : m < 18446744073709551616) : swp k m x < 18446744073709551616 :=
  Nat.or_lt_two_pow (n := 64) (Nat.lt_of_le_of_lt Nat.and_le_right hm) (Nat.mod_lt _ (by omega))
theorem swp_bit (k m x i : Nat) (hi : i < 64) (hk : 0 < k) (hm : ∀ j, j < 64 → m.testBit j = decide (j / k % 2 = 0)) (hq : k ≤ i → i / k % 2 = 0 → (i - k) / k % 2 ≠ 0) (hr : i / k % 2 ≠ 0 → k ≤ i ∧ (i - k) / k % 2 = 0) : (swp k m x).testBit i = x.testBit (px k i) := by
  unfold swp px
  rw [Nat.testBit_or, Nat.testBit_and, Nat.testBit_div_two_pow, show (18446744073709551616 : Nat) = 2 ^ 64 from rfl, Nat.testBit_mod_two_pow, Nat.testBit_mul_two_pow, Nat.testBit_and, hm i hi]
  by_cases h : i / k % 2 = 0
  · rw [if_pos h, decide_eq_true h]
    by_cases h2 : k ≤ i
    · rw [hm (i - k) (by omega), decide_eq_false (hq h2 h)]; simp
    · simp [h2]
  · obtain ⟨h2, h3⟩ := hr h
    rw [if_neg h, decide_eq_false h, hm (i - k) (by omega), decide_eq_true h3]
    simp [hi, h2]

def rev (x : Nat) : Nat := wordOf fun i => x.testBit i
theorem rev_lt (x : Nat) : rev x < 18446744073709551616 := wordOf_lt _
theorem rev_bit (x i : Nat) (hi : i < 64) : (rev x).testBit (63 - i) = x.testBit i := bit_wordOf _ _ hi

def last32 (x : Nat) : Nat := (x / 2 ^ 32) ||| (x * 2 ^ 32 % 18446744073709551616)
theorem last32_bit (x i : Nat) (hx : x < 18446744073709551616) (hi : i < 64) : (last32 x).testBit i = x.testBit (px 32 i) := by
  unfold last32 px
  rw [Nat.testBit_or, Nat.testBit_div_two_pow, show (18446744073709551616 : Nat) = 2 ^ 64 from rfl, Nat.testBit_mod_two_pow, Nat.testBit_mul_two_pow]
  by_cases h : i < 32
  · rw [if_pos (by omega)]
    simp [show ¬ 32 ≤ i from by omega]
  · rw [if_neg (by omega)]
    have : x.testBit (i + 32) = false := Nat.testBit_lt_two_pow (Nat.lt_of_lt_of_le hx (by rw [show (18446744073709551616 : Nat) = 2 ^ 64 from rfl]; exact Nat.pow_le_pow_right (by omega) (by omega)))
    simp [this, hi, show 32 ≤ i from by omega]

theorem masks : (∀ j, j < 64 → (6148914691236517205 : Nat).testBit j = decide (j / 1 % 2 = 0)) ∧ (∀ j, j < 64 → (3689348814741910323 : Nat).testBit j = decide (j / 2 % 2 = 0)) ∧ (∀ j, j < 64 → (1085102592571150095 : Nat).testBit j = decide (j / 4 % 2 = 0)) ∧ (∀ j, j < 64 → (71777214294589695 : Nat).testBit j = decide (j / 8 % 2 = 0)) ∧ (∀ j, j < 64 → (281470681808895 : Nat).testBit j = decide (j / 16 % 2 = 0)) := by decide +kernel
theorem steps : ∀ k ∈ [1, 2, 4, 8, 16], ∀ i, i < 64 → (k ≤ i → i / k % 2 = 0 → (i - k) / k % 2 ≠ 0) ∧ (i / k % 2 ≠ 0 → k ≤ i ∧ (i - k) / k % 2 = 0) := by decide +kernel
theorem px_lt : ∀ k ∈ [1, 2, 4, 8, 16, 32], ∀ i, i < 64 → px k i < 64 := by decide +kernel
theorem px_all : ∀ i, i < 64 → px 1 (px 2 (px 4 (px 8 (px 16 (px 32 i))))) = 63 - i := by decide +kernel

theorem rev_road (x : Nat) : last32 (swp 16 281470681808895 (swp 8 71777214294589695 (swp 4 1085102592571150095 (swp 2 3689348814741910323 (swp 1 6148914691236517205 x))))) = rev x := by
  obtain ⟨m1, m2, m3, m4, m5⟩ := masks
  have l5 := swp_lt 16 281470681808895 (swp 8 71777214294589695 (swp 4 1085102592571150095 (swp 2 3689348814741910323 (swp 1 6148914691236517205 x)))) (by omega)
  refine word_eq (Nat.or_lt_two_pow (n := 64) (Nat.lt_of_le_of_lt (Nat.div_le_self _ _) l5) (Nat.mod_lt _ (by omega))) ?_
  intro k hk
  have h63 : 63 - k < 64 := by omega
  rw [last32_bit _ _ l5 h63]
  have a5 := px_lt 32 (by decide) _ h63
  rw [swp_bit 16 _ _ _ a5 (by omega) m5 (steps 16 (by decide) _ a5).1 (steps 16 (by decide) _ a5).2]
  have a4 := px_lt 16 (by decide) _ a5
  rw [swp_bit 8 _ _ _ a4 (by omega) m4 (steps 8 (by decide) _ a4).1 (steps 8 (by decide) _ a4).2]
  have a3 := px_lt 8 (by decide) _ a4
  rw [swp_bit 4 _ _ _ a3 (by omega) m3 (steps 4 (by decide) _ a3).1 (steps 4 (by decide) _ a3).2]
  have a2 := px_lt 4 (by decide) _ a3
  rw [swp_bit 2 _ _ _ a2 (by omega) m2 (steps 2 (by decide) _ a2).1 (steps 2 (by decide) _ a2).2]
  have a1 := px_lt 2 (by decide) _ a2
  rw [swp_bit 1 _ _ _ a1 (by omega) m1 (steps 1 (by decide) _ a1).1 (steps 1 (by decide) _ a1).2]
  rw [px_all _ h63, show 63 - (63 - k) = k from by omega]

theorem shl_nat (b k : Nat) : IntKind.u64.wrap ((b : Int) * 2 ^ k) = ((b * 2 ^ k % 18446744073709551616 : Nat) : Int) := by rw [wrapu64]; exact cast_mul_pow b k 18446744073709551616

end Go.Proofs.YtflhbmapikdmhaaDoor

namespace Go.Proofs.YtflhbmapikdmhaaDoor
open Go.RowKit

set_option maxRecDepth 100000 in
set_option maxHeartbeats 1000000 in
theorem revBytes_any (x : Nat) (w : World) (hx : x < 18446744073709551616) :
    Calls Tryd.prog 70 #[.int .u64 x] w fun e w' => e = .returned (.int .u64 (last32 (swp 16 281470681808895 (swp 8 71777214294589695 x)) : Nat)) ∧ w' = w := by
  obtain ⟨a1, ha1⟩ : ∃ a, a = x / 256 &&& 71777214294589695 := ⟨_, rfl⟩
  obtain ⟨b1, hb1⟩ : ∃ b, b = x &&& 71777214294589695 := ⟨_, rfl⟩
  obtain ⟨c1, hc1⟩ : ∃ c, c = b1 * 256 % 18446744073709551616 := ⟨_, rfl⟩
  obtain ⟨y1, hy1⟩ : ∃ y, y = a1 ||| c1 := ⟨_, rfl⟩
  have e1 : swp 8 71777214294589695 x = y1 := by simp only [hy1, hc1, hb1, ha1, swp, Nat.reducePow]
  have l1 : y1 < 18446744073709551616 := by rw [← e1]; exact swp_lt 8 71777214294589695 x (by omega)
  have q1 : x / 256 < 18446744073709551616 := Nat.lt_of_le_of_lt (Nat.div_le_self _ _) hx
  have ka1 : bits .and .u64 ((x : Int) / 256) 71777214294589695 = (a1 : Int) := by
    rw [ha1, show (x : Int) / 256 = ((x / 256 : Nat) : Int) from by omega]; exact u64_and_nat (x / 256) 71777214294589695 q1 (by omega)
  have kb1 : bits .and .u64 (x : Int) 71777214294589695 = (b1 : Int) := by rw [hb1]; exact u64_and_nat x 71777214294589695 hx (by omega)
  have kc1 : IntKind.u64.wrap ((b1 : Int) * 256) = (c1 : Int) := by rw [hc1, wrapu64]; omega
  have kd1 : bits .or .u64 (a1 : Int) (c1 : Int) = (y1 : Int) := by rw [hy1]; exact u64_or_nat a1 c1 (by rw [ha1]; exact Nat.lt_of_le_of_lt Nat.and_le_right (by omega)) (by rw [hc1]; exact Nat.mod_lt _ (by omega))
  obtain ⟨a2, ha2⟩ : ∃ a, a = y1 / 65536 &&& 281470681808895 := ⟨_, rfl⟩
  obtain ⟨b2, hb2⟩ : ∃ b, b = y1 &&& 281470681808895 := ⟨_, rfl⟩
  obtain ⟨c2, hc2⟩ : ∃ c, c = b2 * 65536 % 18446744073709551616 := ⟨_, rfl⟩
  obtain ⟨y2, hy2⟩ : ∃ y, y = a2 ||| c2 := ⟨_, rfl⟩
  have e2 : swp 16 281470681808895 y1 = y2 := by simp only [hy2, hc2, hb2, ha2, swp, Nat.reducePow]
  have l2 : y2 < 18446744073709551616 := by rw [← e2]; exact swp_lt 16 281470681808895 y1 (by omega)
  have q2 : y1 / 65536 < 18446744073709551616 := Nat.lt_of_le_of_lt (Nat.div_le_self _ _) l1
  have ka2 : bits .and .u64 ((y1 : Int) / 65536) 281470681808895 = (a2 : Int) := by
    rw [ha2, show (y1 : Int) / 65536 = ((y1 / 65536 : Nat) : Int) from by omega]; exact u64_and_nat (y1 / 65536) 281470681808895 q2 (by omega)
  have kb2 : bits .and .u64 (y1 : Int) 281470681808895 = (b2 : Int) := by rw [hb2]; exact u64_and_nat y1 281470681808895 l1 (by omega)
  have kc2 : IntKind.u64.wrap ((b2 : Int) * 65536) = (c2 : Int) := by rw [hc2, wrapu64]; omega
  have kd2 : bits .or .u64 (a2 : Int) (c2 : Int) = (y2 : Int) := by rw [hy2]; exact u64_or_nat a2 c2 (by rw [ha2]; exact Nat.lt_of_le_of_lt Nat.and_le_right (by omega)) (by rw [hc2]; exact Nat.mod_lt _ (by omega))
  obtain ⟨d, hd⟩ : ∃ d, d = y2 * 4294967296 % 18446744073709551616 := ⟨_, rfl⟩
  obtain ⟨f, hf⟩ : ∃ f, f = y2 / 4294967296 := ⟨_, rfl⟩
  obtain ⟨z, hz⟩ : ∃ z, z = f ||| d := ⟨_, rfl⟩
  have kf : (y2 : Int) / 4294967296 = (f : Int) := by rw [hf]; omega
  have kd : IntKind.u64.wrap ((y2 : Int) * 4294967296) = (d : Int) := by rw [hd, wrapu64]; omega
  have kz : bits .or .u64 (f : Int) (d : Int) = (z : Int) := by rw [hz]; exact u64_or_nat f d (by rw [hf]; exact Nat.lt_of_le_of_lt (Nat.div_le_self _ _) l2) (by rw [hd]; exact Nat.mod_lt _ (by omega))
  have HE : Hid (last32 (swp 16 281470681808895 (swp 8 71777214294589695 x)) = z) := by show _ = _; rw [e1, e2, hz, hd, hf]; simp only [last32, Nat.reducePow]
  rw [HE.out]
  clear HE e1 e2 hz hd hf ha1 hb1 hc1 hy1 ha2 hb2 hc2 hy2 l1 l2
  go_enter Tryd.func70, Tryd.ntmps70
  go_wp2
  go_ret
  exact ⟨rfl, rfl⟩

set_option maxRecDepth 100000 in
set_option maxHeartbeats 1000000 in
theorem rev_any (x : Nat) (w : World) (hx : x < 18446744073709551616) :
    Calls Tryd.prog 45 #[.int .u64 x] w fun e w' => e = .returned (.int .u64 (rev x : Nat)) ∧ w' = w := by
  obtain ⟨a1, ha1⟩ : ∃ a, a = x / 2 &&& 6148914691236517205 := ⟨_, rfl⟩
  obtain ⟨b1, hb1⟩ : ∃ b, b = x &&& 6148914691236517205 := ⟨_, rfl⟩
  obtain ⟨c1, hc1⟩ : ∃ c, c = b1 * 2 % 18446744073709551616 := ⟨_, rfl⟩
  obtain ⟨y1, hy1⟩ : ∃ y, y = a1 ||| c1 := ⟨_, rfl⟩
  have e1 : swp 1 6148914691236517205 x = y1 := by simp only [hy1, hc1, hb1, ha1, swp, Nat.reducePow]
  have l1 : y1 < 18446744073709551616 := by rw [← e1]; exact swp_lt 1 6148914691236517205 x (by omega)
  have q1 : x / 2 < 18446744073709551616 := Nat.lt_of_le_of_lt (Nat.div_le_self _ _) hx
  have ka1 : bits .and .u64 ((x : Int) / 2) 6148914691236517205 = (a1 : Int) := by
    rw [ha1, show (x : Int) / 2 = ((x / 2 : Nat) : Int) from by omega]; exact u64_and_nat (x / 2) 6148914691236517205 q1 (by omega)
  have kb1 : bits .and .u64 (x : Int) 6148914691236517205 = (b1 : Int) := by rw [hb1]; exact u64_and_nat x 6148914691236517205 hx (by omega)
  have kc1 : IntKind.u64.wrap ((b1 : Int) * 2) = (c1 : Int) := by rw [hc1, wrapu64]; omega
  have kd1 : bits .or .u64 (a1 : Int) (c1 : Int) = (y1 : Int) := by rw [hy1]; exact u64_or_nat a1 c1 (by rw [ha1]; exact Nat.lt_of_le_of_lt Nat.and_le_right (by omega)) (by rw [hc1]; exact Nat.mod_lt _ (by omega))
  obtain ⟨a2, ha2⟩ : ∃ a, a = y1 / 4 &&& 3689348814741910323 := ⟨_, rfl⟩
  obtain ⟨b2, hb2⟩ : ∃ b, b = y1 &&& 3689348814741910323 := ⟨_, rfl⟩
  obtain ⟨c2, hc2⟩ : ∃ c, c = b2 * 4 % 18446744073709551616 := ⟨_, rfl⟩
  obtain ⟨y2, hy2⟩ : ∃ y, y = a2 ||| c2 := ⟨_, rfl⟩
  have e2 : swp 2 3689348814741910323 y1 = y2 := by simp only [hy2, hc2, hb2, ha2, swp, Nat.reducePow]
  have l2 : y2 < 18446744073709551616 := by rw [← e2]; exact swp_lt 2 3689348814741910323 y1 (by omega)
  have q2 : y1 / 4 < 18446744073709551616 := Nat.lt_of_le_of_lt (Nat.div_le_self _ _) l1
  have ka2 : bits .and .u64 ((y1 : Int) / 4) 3689348814741910323 = (a2 : Int) := by
    rw [ha2, show (y1 : Int) / 4 = ((y1 / 4 : Nat) : Int) from by omega]; exact u64_and_nat (y1 / 4) 3689348814741910323 q2 (by omega)
  have kb2 : bits .and .u64 (y1 : Int) 3689348814741910323 = (b2 : Int) := by rw [hb2]; exact u64_and_nat y1 3689348814741910323 l1 (by omega)
  have kc2 : IntKind.u64.wrap ((b2 : Int) * 4) = (c2 : Int) := by rw [hc2, wrapu64]; omega
  have kd2 : bits .or .u64 (a2 : Int) (c2 : Int) = (y2 : Int) := by rw [hy2]; exact u64_or_nat a2 c2 (by rw [ha2]; exact Nat.lt_of_le_of_lt Nat.and_le_right (by omega)) (by rw [hc2]; exact Nat.mod_lt _ (by omega))
  obtain ⟨a3, ha3⟩ : ∃ a, a = y2 / 16 &&& 1085102592571150095 := ⟨_, rfl⟩
  obtain ⟨b3, hb3⟩ : ∃ b, b = y2 &&& 1085102592571150095 := ⟨_, rfl⟩
  obtain ⟨c3, hc3⟩ : ∃ c, c = b3 * 16 % 18446744073709551616 := ⟨_, rfl⟩
  obtain ⟨y3, hy3⟩ : ∃ y, y = a3 ||| c3 := ⟨_, rfl⟩
  have e3 : swp 4 1085102592571150095 y2 = y3 := by simp only [hy3, hc3, hb3, ha3, swp, Nat.reducePow]
  have l3 : y3 < 18446744073709551616 := by rw [← e3]; exact swp_lt 4 1085102592571150095 y2 (by omega)
  have q3 : y2 / 16 < 18446744073709551616 := Nat.lt_of_le_of_lt (Nat.div_le_self _ _) l2
  have ka3 : bits .and .u64 ((y2 : Int) / 16) 1085102592571150095 = (a3 : Int) := by
    rw [ha3, show (y2 : Int) / 16 = ((y2 / 16 : Nat) : Int) from by omega]; exact u64_and_nat (y2 / 16) 1085102592571150095 q3 (by omega)
  have kb3 : bits .and .u64 (y2 : Int) 1085102592571150095 = (b3 : Int) := by rw [hb3]; exact u64_and_nat y2 1085102592571150095 l2 (by omega)
  have kc3 : IntKind.u64.wrap ((b3 : Int) * 16) = (c3 : Int) := by rw [hc3, wrapu64]; omega
  have kd3 : bits .or .u64 (a3 : Int) (c3 : Int) = (y3 : Int) := by rw [hy3]; exact u64_or_nat a3 c3 (by rw [ha3]; exact Nat.lt_of_le_of_lt Nat.and_le_right (by omega)) (by rw [hc3]; exact Nat.mod_lt _ (by omega))
  have HRB : Hid (∀ w', Calls Tryd.prog 70 #[.int .u64 y3] w' fun e w'' => e = .returned (.int .u64 (rev x : Nat)) ∧ w'' = w') := fun w' => by
    have := revBytes_any y3 w' l3
    rw [← e3, ← e2, ← e1, rev_road] at this
    rw [← e3, ← e2, ← e1]
    exact this
  clear e1 e2 e3 ha1 hb1 hc1 hy1 ha2 hb2 hc2 hy2 ha3 hb3 hc3 hy3 l1 l2 l3
  go_enter Tryd.func45, Tryd.ntmps45
  go_wp2_with fail
  refine (HRB.out _).mono ?_
  rintro e w1 ⟨rfl, rfl⟩
  go_wp2_with fail
  go_ret
  exact ⟨rfl, rfl⟩

end Go.Proofs.YtflhbmapikdmhaaDoor
