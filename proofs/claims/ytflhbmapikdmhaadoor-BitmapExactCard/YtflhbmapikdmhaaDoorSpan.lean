/- Small functions, more: spans, masks, gaps, the count of a word. -/
import Derived.Test.YtflhbmapikdmhaaDoorRows
import Derived.Test.YtflhbmapikdmhaaDoorFrame
import Derived.Deep.QuietTactic
import Derived.BigQuiet
import Derived.BigRegion
import Derived.Test.YtflhbmapikdmhaaDoorPop
import Derived.Laws.Bits128
namespace Go.Proofs.YtflhbmapikdmhaaDoor
open Go.RowKit

set_option maxRecDepth 100000 in
set_option maxHeartbeats 1000000 in
theorem strideOf_any (W : Nat) (w : World) (h : W ≤ 1048576) :
    Calls Tryd.prog 61 #[.int .i64 W] w fun e w' => e = .returned (.int .i64 (stride W : Nat)) ∧ w' = w := by
  go_enter Tryd.func61, Tryd.ntmps61
  go_wp2
  go_ret
  exact ⟨by simp [stride]; omega, rfl⟩

set_option maxRecDepth 100000 in
set_option maxHeartbeats 1000000 in
theorem words_any (W : Nat) (w : World) (h : W ≤ 1048576) :
    Calls Tryd.prog 57 #[.int .i64 W] w fun e w' => e = .returned (.int .i64 (stride W : Nat)) ∧ w' = w := by
  go_enter Tryd.func57, Tryd.ntmps57
  go_wp2
  go_ret
  exact ⟨by simp [stride], rfl⟩

set_option maxRecDepth 100000 in
set_option maxHeartbeats 1000000 in
theorem isBit_any (b : Int) (w : World) :
    Calls Tryd.prog 32 #[.int .i64 b] w fun e w' => e = .returned (.bool (decide (b = 0 ∨ b = 1))) ∧ w' = w := by
  go_enter Tryd.func32, Tryd.ntmps32
  by_cases h0 : b = 0
  · subst h0
    go_wp2
    go_ret
    exact ⟨by simp, rfl⟩
  · have h0' : (b == 0) = false := by simp [h0]
    go_wp2
    go_ret
    exact ⟨by simp [h0]; rw [Bool.beq_eq_decide_eq], rfl⟩

def sizeOK (x y : Int) : Bool := decide (1 ≤ x ∧ 1 ≤ y ∧ x * y ≤ 1048576)

theorem le_div_iff (x y : Int) (hy : 1 ≤ y) : (x ≤ 1048576 / y) ↔ x * y ≤ 1048576 := Int.le_ediv_iff_mul_le (by omega)
theorem sizeOK_of (x y : Int) (h : 1 ≤ x) (hy : 1 ≤ y) : decide (x ≤ 1048576 / y) = sizeOK x y := by
  unfold sizeOK
  rw [decide_eq_decide, le_div_iff x y hy]
  exact ⟨fun h1 => ⟨h, hy, h1⟩, fun h1 => h1.2.2⟩

set_option maxRecDepth 100000 in
set_option maxHeartbeats 1000000 in
theorem isSize_any (x y : Int) (w : World) (hx : -9223372036854775808 ≤ x ∧ x ≤ 9223372036854775807) (hy : -9223372036854775808 ≤ y ∧ y ≤ 9223372036854775807) :
    Calls Tryd.prog 60 #[.int .i64 x, .int .i64 y] w fun e w' => e = .returned (.bool (sizeOK x y)) ∧ w' = w := by
  go_enter Tryd.func60, Tryd.ntmps60
  by_cases h0 : 1 ≤ x
  · by_cases h1 : 1 ≤ y
    · go_wp2
      go_ret
      exact ⟨by rw [← sizeOK_of x y h0 h1]; rfl, rfl⟩
    · go_wp2
      go_ret
      exact ⟨by simp [sizeOK]; omega, rfl⟩
  · go_wp2
    go_ret
    exact ⟨by simp [sizeOK]; omega, rfl⟩

set_option maxRecDepth 100000 in
set_option maxHeartbeats 1000000 in
theorem inside_any (b g cap W H : Nat) (P : Nat → Nat → Bool) (x y : Int) (w : World) (h : MapAt w b g cap W H P) :
    Calls Tryd.prog 31 #[.pointer (some ⟨b, 0, none⟩), .int .i64 x, .int .i64 y] w fun e w' => e = .returned (.bool (decide (0 ≤ x ∧ x < W ∧ 0 ≤ y ∧ y < H))) ∧ w' = w := by
  obtain ⟨c0, c1, c2, c3, cf⟩ := cell_of_four h.blk
  clear h
  go_enter Tryd.func31, Tryd.ntmps31
  by_cases h0 : 0 ≤ x
  · by_cases h1 : x < W
    · by_cases h2 : 0 ≤ y
      · go_wp2
        go_ret
        exact ⟨by simp [h0, h1, h2], rfl⟩
      · go_wp2
        go_ret
        exact ⟨by simp; omega, rfl⟩
    · go_wp2
      go_ret
      exact ⟨by simp; omega, rfl⟩
  · go_wp2
    go_ret
    exact ⟨by simp; omega, rfl⟩

set_option maxRecDepth 100000 in
set_option maxHeartbeats 1000000 in
theorem row_any (b g cap W H : Nat) (P : Nat → Nat → Bool) (y : Nat) (w : World) (h : MapAt w b g cap W H P) (hy : y < H) :
    Calls Tryd.prog 34 #[.pointer (some ⟨b, 0, none⟩), .int .i64 y] w fun e w' => e = .returned (.slice (some ⟨g, y * stride W, none⟩) (stride W) (stride W)) ∧ ∃ q, w' = w.drewN q := by
  obtain ⟨c0, c1, c2, c3, cf⟩ := cell_of_four h.blk
  have hwl := h.words_le
  have hca : H * stride W ≤ cap ∧ cap ≤ maxLen := by
    rcases h.own.2 with ⟨e, _⟩ | ⟨g', cap', cur, e, _, _, hc, hm, _⟩
    · cases e
    · simp at e; obtain ⟨_, rfl⟩ := e; exact ⟨hc, hm⟩
  unfold maxLen at hca
  have hend : y * stride W + stride W ≤ H * stride W := by rw [← Nat.succ_mul]; exact Nat.mul_le_mul_right _ hy
  have hS := stride_pos h.wpos
  have hyb : (y : Int) ≤ 1048576 := by
    have := h.area
    have : 1 * H ≤ W * H := Nat.mul_le_mul_right _ h.wpos
    omega
  clear h cf c0 c1
  generalize stride W = S at *
  generalize H * S = N at *
  have hm1 : (y : Int) * (S : Int) = ((y * S : Nat) : Int) := by push_cast; rfl
  have hm2 : ((y : Int) + 1) * (S : Int) = ((y * S : Nat) : Int) + (S : Int) := by rw [Int.add_mul, hm1]; omega
  generalize y * S = a at *
  obtain ⟨hc1, hc2⟩ := hca
  have hn1 : ¬ a + S = a := by omega
  have hn2 : ¬ S = 0 := by omega
  go_enter Tryd.func34, Tryd.ntmps34
  go_wp2
  go_region
  go_wp2
  all_goals first | (exfalso; omega) | (go_ret; exact ⟨by simp, 1, rfl⟩)

end Go.Proofs.YtflhbmapikdmhaaDoor

namespace Go.Proofs.YtflhbmapikdmhaaDoor
open Go.RowKit

def fstW (to n : Nat) : Nat := if n = 0 then 0 else to / 64
def cntW (to n : Nat) : Nat := if n = 0 then 0 else (to + n - 1) / 64 - to / 64 + 1

set_option maxRecDepth 100000 in
set_option maxHeartbeats 1000000 in
theorem wordsOf_any (fr : Int) (to n : Nat) (w : World) (h : to ≤ 4194304) (hn : n ≤ 4194304) :
    Calls Tryd.prog 63 #[.agg #[.int .i64 fr, .int .i64 to, .int .i64 n]] w fun e w' => e = .returned (.tuple #[.int .i64 (fstW to n : Nat), .int .i64 (cntW to n : Nat)]) ∧ Fr (fun _ => False) w w' := by
  by_cases h0 : n = 0
  · subst h0
    go_enter Tryd.func63, Tryd.ntmps63
    go_wp2
    go_ret2
    exact ⟨by simp [fstW, cntW], (Fr.refl _ _).alloc _⟩
  · have h0' : ((n : Int) == 0) = false := by simp [h0]
    have hq1 : (to : Int) + n - 1 = ((to + n - 1 : Nat) : Int) := by omega
    go_enter Tryd.func63, Tryd.ntmps63
    go_wp2
    go_region
    go_wp2
    go_ret2
    refine ⟨?_, ((Fr.refl _ _).alloc _).drewN _⟩
    simp [fstW, cntW, h0]
    omega

theorem wrapu64 (x : Int) : IntKind.u64.wrap x = x % 18446744073709551616 := by
  simp [IntKind.wrap, IntKind.signed, IntKind.bits]

theorem all_shr (a j : Nat) : (18446744073709551615 / 2 ^ a).testBit j = decide (j + a < 64) := by
  rw [Nat.testBit_div_two_pow, show (18446744073709551615 : Nat) = 2 ^ 64 - 1 from rfl, Nat.testBit_two_pow_sub_one]
theorem all_shl (b j : Nat) : (18446744073709551615 * 2 ^ b % 18446744073709551616).testBit j = (decide (j < 64) && decide (b ≤ j)) := by
  rw [show (18446744073709551616 : Nat) = 2 ^ 64 from rfl, Nat.testBit_mod_two_pow, Nat.testBit_mul_two_pow, show (18446744073709551615 : Nat) = 2 ^ 64 - 1 from rfl, Nat.testBit_two_pow_sub_one]
  by_cases h1 : j < 64 <;> by_cases h2 : b ≤ j <;> simp [h1, h2]
  omega
theorem cast_div_pow (c a : Nat) : (c : Int) / 2 ^ a = ((c / 2 ^ a : Nat) : Int) := by push_cast; rfl
theorem cast_mul_pow (c b m : Nat) : (c : Int) * 2 ^ b % (m : Int) = ((c * 2 ^ b % m : Nat) : Int) := by push_cast; rfl
theorem mask_num (a b : Nat) (_hb : b < 64) : bits .and .u64 ((18446744073709551615 : Int) / 2 ^ a) (IntKind.u64.wrap (18446744073709551615 * 2 ^ b)) = ((wordOf fun i => decide (a ≤ i ∧ i + b < 64) : Nat) : Int) := by
  have h1 : (18446744073709551615 : Int) / 2 ^ a = ((18446744073709551615 / 2 ^ a : Nat) : Int) := cast_div_pow 18446744073709551615 a
  have h2 : IntKind.u64.wrap (18446744073709551615 * 2 ^ b) = ((18446744073709551615 * 2 ^ b % 18446744073709551616 : Nat) : Int) := by rw [wrapu64]; exact cast_mul_pow 18446744073709551615 b 18446744073709551616
  have l1 : 18446744073709551615 / 2 ^ a < 18446744073709551616 := Nat.lt_of_le_of_lt (Nat.div_le_self _ _) (by omega)
  have l2 : 18446744073709551615 * 2 ^ b % 18446744073709551616 < 18446744073709551616 := Nat.mod_lt _ (by omega)
  rw [h1, h2, u64_and_nat _ _ l1 l2]
  congr 1
  refine word_eq (Nat.lt_of_le_of_lt Nat.and_le_left l1) ?_
  intro k hk
  rw [Nat.testBit_and, all_shr, all_shl]
  by_cases h3 : a ≤ k <;> by_cases h4 : k + b < 64 <;> simp [h3, h4] <;> omega
theorem mask_num0 (b : Nat) (hb : b < 64) : bits .and .u64 18446744073709551615 (IntKind.u64.wrap (18446744073709551615 * 2 ^ b)) = ((wordOf fun i => decide (0 ≤ i ∧ i + b < 64) : Nat) : Int) := by
  rw [← mask_num 0 b hb]; simp
theorem mask_num1 (a : Nat) : bits .and .u64 ((18446744073709551615 : Int) / 2 ^ a) 18446744073709551615 = ((wordOf fun i => decide (a ≤ i ∧ i + 0 < 64) : Nat) : Int) := by
  rw [← mask_num a 0 (by omega)]; rw [show IntKind.u64.wrap (18446744073709551615 * 2 ^ 0) = 18446744073709551615 from by decide]
theorem mask_num2 : bits .and .u64 18446744073709551615 18446744073709551615 = ((wordOf fun i => decide (0 ≤ i ∧ i + 0 < 64) : Nat) : Int) := by
  rw [← mask_num1 0]; simp
theorem pad_num (p : Nat) (h : p < 64) : IntKind.u64.wrap (IntKind.u64.wrap (2 ^ p) - 1) = ((2 ^ p - 1 : Nat) : Int) := by
  have h1 : (2 : Nat) ^ p < 2 ^ 64 := Nat.pow_lt_pow_right (by omega) h
  have h2 : 0 < (2 : Nat) ^ p := Nat.two_pow_pos p
  have h3 : (2 : Int) ^ p = ((2 ^ p : Nat) : Int) := by push_cast; rfl
  rw [wrapu64, wrapu64, h3]
  generalize (2 : Nat) ^ p = X at *
  omega

set_option maxRecDepth 100000 in
set_option maxHeartbeats 1000000 in
theorem maskOf_any (fr : Int) (to n k : Nat) (w : World) (h : to ≤ 4194304) (hn : n ≤ 4194304) (h1 : to < 64 * k + 64) (h2 : 64 * k < to + n) :
    Calls Tryd.prog 64 #[.agg #[.int .i64 fr, .int .i64 to, .int .i64 n], .int .i64 k] w fun e w' => e = .returned (.int .u64 (wordOf fun i => decide (to ≤ 64 * k + i ∧ 64 * k + i < to + n) : Nat)) ∧ Fr (fun _ => False) w w' := by
  by_cases ha : (to : Int) - (k : Int) * 64 < 0
  · by_cases hb : 0 ≤ ((k : Int) + 1) * 64 - (to : Int) - (n : Int)
    · go_enter Tryd.func64, Tryd.ntmps64
      go_wp2
      go_region
      go_wp2
      go_ret
      refine ⟨congrArg (fun x => Ending.returned (Value.int .u64 x)) ((mask_num0 _ (by omega)).trans (congrArg Nat.cast (wordOf_congr fun i hi => decide_eq_decide.2 ?_))), ((Fr.refl _ _).alloc _).drewN _⟩
      omega
    · go_enter Tryd.func64, Tryd.ntmps64
      go_wp2
      go_region
      go_wp2
      go_ret
      refine ⟨congrArg (fun x => Ending.returned (Value.int .u64 x)) ((mask_num2).trans (congrArg Nat.cast (wordOf_congr fun i hi => decide_eq_decide.2 ?_))), ((Fr.refl _ _).alloc _).drewN _⟩
      omega
  · by_cases hb : 0 ≤ ((k : Int) + 1) * 64 - (to : Int) - (n : Int)
    · go_enter Tryd.func64, Tryd.ntmps64
      go_wp2
      go_region
      go_wp2
      go_ret
      refine ⟨congrArg (fun x => Ending.returned (Value.int .u64 x)) ((mask_num _ _ (by omega)).trans (congrArg Nat.cast (wordOf_congr fun i hi => decide_eq_decide.2 ?_))), ((Fr.refl _ _).alloc _).drewN _⟩
      omega
    · go_enter Tryd.func64, Tryd.ntmps64
      go_wp2
      go_region
      go_wp2
      go_ret
      refine ⟨congrArg (fun x => Ending.returned (Value.int .u64 x)) ((mask_num1 _).trans (congrArg Nat.cast (wordOf_congr fun i hi => decide_eq_decide.2 ?_))), ((Fr.refl _ _).alloc _).drewN _⟩
      omega


set_option maxRecDepth 100000 in
set_option maxHeartbeats 1000000 in
theorem gap_any (a b : Int) (w : World) (ha : -9223372036854775808 ≤ a ∧ a ≤ 9223372036854775807) (hb : -9223372036854775808 ≤ b ∧ b ≤ 9223372036854775807) :
    Calls Tryd.prog 65 #[.int .i64 a, .int .i64 b] w fun e w' => e = .returned (.int .u64 ((b - a).toNat : Nat)) ∧ w' = w := by
  by_cases h0 : b ≤ a
  · go_enter Tryd.func65, Tryd.ntmps65
    go_wp2
    go_ret
    exact ⟨by simp; omega, rfl⟩
  · go_enter Tryd.func65, Tryd.ntmps65
    go_wp2
    go_ret
    exact ⟨by simp [wrapu64]; omega, rfl⟩

set_option maxRecDepth 100000 in
set_option maxHeartbeats 1000000 in
theorem padOf_any (W : Nat) (w : World) (h : W ≤ 1048576) (h0 : 1 ≤ W) :
    Calls Tryd.prog 43 #[.int .i64 W] w fun e w' => e = .returned (.int .u64 (2 ^ (64 * stride W - W) - 1 : Nat)) ∧ w' = w := by
  go_enter Tryd.func43, Tryd.ntmps43
  go_wp2_with fail
  refine (strideOf_any W _ h).mono ?_
  rintro e w1 ⟨rfl, rfl⟩
  have hs1 : stride W * 64 < W + 64 := by unfold stride; omega
  have hs2 : W ≤ stride W * 64 := by unfold stride; omega
  go_wp2
  go_ret
  refine ⟨?_, rfl⟩
  rw [show 64 * stride W - W = stride W * 64 - W from by omega, ← pad_num _ (by omega)]
  rfl

set_option maxRecDepth 100000 in
set_option maxHeartbeats 1000000 in
theorem ones_any (x : Nat) (w : World) (h : x < 18446744073709551616) :
    Calls Tryd.prog 58 #[.int .u64 x] w fun e w' => e = .returned (.int .i64 (pop 64 x : Nat)) ∧ w' = w := by
  obtain ⟨a, b, c, d, e, r1, r2, r3, r4, r5, ⟨l1, l2, l3, l4, l5⟩, ⟨m1, m2, m3⟩, hp⟩ := ones_road x h
  have k1 : bits .and .u64 ((x : Int) / 2) 6148914691236517205 = (a : Int) := by
    rw [← r1]; exact u64_and_nat (x / 2) 6148914691236517205 (by omega) (by omega)
  have k2 : bits .and .u64 (x : Int) 6148914691236517205 = (b : Int) := by
    rw [← r2]; exact u64_and_nat x 6148914691236517205 (by omega) (by omega)
  have k3 : bits .and .u64 (((a : Int) + b) / 4) 3689348814741910323 = (c : Int) := by
    rw [← r3]; exact u64_and_nat ((a + b) / 4) 3689348814741910323 (by omega) (by omega)
  have k4 : bits .and .u64 ((a : Int) + b) 3689348814741910323 = (d : Int) := by
    rw [← r4]; exact u64_and_nat (a + b) 3689348814741910323 (by omega) (by omega)
  have k5 : bits .and .u64 (((c : Int) + d) / 16 + ((c : Int) + d)) 1085102592571150095 = (e : Int) := by
    rw [← r5]; exact u64_and_nat ((c + d) / 16 + (c + d)) 1085102592571150095 (by omega) (by omega)
  clear r1 r2 r3 r4 r5
  have w1 : IntKind.u64.wrap ((a : Int) + b) = (a : Int) + b := by rw [wrapu64]; omega
  have w2 : IntKind.u64.wrap ((c : Int) + d) = (c : Int) + d := by rw [wrapu64]; omega
  have w3 : IntKind.u64.wrap (((c : Int) + d) / 16 + ((c : Int) + d)) = ((c : Int) + d) / 16 + ((c : Int) + d) := by rw [wrapu64]; omega
  have HP : Hid ((e + e / 256 + (e + e / 256) / 65536 + (e + e / 256 + (e + e / 256) / 65536) / 4294967296) % 128 = pop 64 x ∧ e + e / 256 < 9223372036854775808 ∧ e + e / 256 + (e + e / 256) / 65536 < 9223372036854775808 ∧ e + e / 256 + (e + e / 256) / 65536 + (e + e / 256 + (e + e / 256) / 65536) / 4294967296 < 9223372036854775808) := ⟨hp, m1, m2, m3⟩
  clear hp m1 m2 m3
  have w4 : IntKind.u64.wrap ((e : Int) + (e : Int) / 256) = ((e + e / 256 : Nat) : Int) := by rw [wrapu64]; have := HP.out.2.1; omega
  have w5 : IntKind.u64.wrap (((e + e / 256 : Nat) : Int) + ((e + e / 256 : Nat) : Int) / 65536) = ((e + e / 256 + (e + e / 256) / 65536 : Nat) : Int) := by rw [wrapu64]; have := HP.out.2.2.1; omega
  obtain ⟨s1, hs1⟩ : ∃ s1, s1 = e + e / 256 := ⟨_, rfl⟩
  rw [← hs1] at w4 w5 HP
  obtain ⟨s2, hs2⟩ : ∃ s2, s2 = s1 + s1 / 65536 := ⟨_, rfl⟩
  rw [← hs2] at w5 HP
  have w6 : IntKind.u64.wrap ((s2 : Int) + (s2 : Int) / 4294967296) = ((s2 + s2 / 4294967296 : Nat) : Int) := by rw [wrapu64]; have := HP.out.2.2.2; omega
  obtain ⟨s3, hs3⟩ : ∃ s3, s3 = s2 + s2 / 4294967296 := ⟨_, rfl⟩
  rw [← hs3] at w6 HP
  have hb3 : s3 < 9223372036854775808 := HP.out.2.2.2
  have w7 : bits .and .i64 (s3 : Int) 127 = ((pop 64 x : Nat) : Int) := by
    rw [← HP.out.1, i64_and127]
    omega
  clear HP hs1 hs2 hs3 l1 l2 l3 l4 l5
  go_enter Tryd.func58, Tryd.ntmps58
  go_wp2
  go_ret
  exact ⟨rfl, rfl⟩

end Go.Proofs.YtflhbmapikdmhaaDoor
