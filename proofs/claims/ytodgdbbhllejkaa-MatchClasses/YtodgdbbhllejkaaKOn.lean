/- 'OnesCount64'. -/
import Derived.Test.YtodgdbbhllejkaaK1
import Derived.Test.YtodgdbbhllejkaaKPop
namespace Go.Proofs.Ytodgdbbhllejkaa
open Go.RowKit

set_option maxRecDepth 100000 in
set_option maxHeartbeats 1000000 in
theorem ones_any (x : Nat) (w : World) (h : x < 18446744073709551616) :
    Calls Try.prog 41 #[.int .u64 x] w fun e w' => e = .returned (.int .i64 (pop 64 x : Nat)) ∧ w' = w := by
  obtain ⟨a, b, c, d, e, r1, r2, r3, r4, r5, ⟨l1, l2, l3, l4, l5⟩, ⟨m1, m2, m3⟩, hp⟩ := ones_road x h
  have k1 : bits .and .u64 ((x : Int) / 2) 6148914691236517205 = (a : Int) := by
    rw [← r1]; exact u64_and_nat (x / 2) 6148914691236517205 (by omega) (by omega)
  have k2 : bits .and .u64 (x : Int) 6148914691236517205 = (b : Int) := by
    rw [← r2]; exact u64_and_nat x 6148914691236517205 (by omega) (by omega)
  have k3 : bits .and .u64 (((a : Int) + b) / 4) 3689348814741910323 = (c : Int) := by
    rw [← r3]; exact u64_and_nat ((a + b) / 4) 3689348814741910323 (by omega) (by omega)
  have k4 : bits .and .u64 ((a : Int) + b) 3689348814741910323 = (d : Int) := by
    rw [← r4]; exact u64_and_nat (a + b) 3689348814741910323 (by omega) (by omega)
  have k5 : bits .and .u64 (((c : Int) + d) / 16 + ((c : Int) + d)) 1085102592571150095 = (e : Int) := by
    rw [← r5]; exact u64_and_nat ((c + d) / 16 + (c + d)) 1085102592571150095 (by omega) (by omega)
  clear r1 r2 r3 r4 r5
  have w1 : IntKind.u64.wrap ((a : Int) + b) = (a : Int) + b := by rw [wrapu64]; omega
  have w2 : IntKind.u64.wrap ((c : Int) + d) = (c : Int) + d := by rw [wrapu64]; omega
  have w3 : IntKind.u64.wrap (((c : Int) + d) / 16 + ((c : Int) + d)) = ((c : Int) + d) / 16 + ((c : Int) + d) := by rw [wrapu64]; omega
  have HP : Hid ((e + e / 256 + (e + e / 256) / 65536 + (e + e / 256 + (e + e / 256) / 65536) / 4294967296) % 128 = pop 64 x ∧ e + e / 256 < 9223372036854775808 ∧ e + e / 256 + (e + e / 256) / 65536 < 9223372036854775808 ∧ e + e / 256 + (e + e / 256) / 65536 + (e + e / 256 + (e + e / 256) / 65536) / 4294967296 < 9223372036854775808) := ⟨hp, m1, m2, m3⟩
  clear hp m1 m2 m3
  have w4 : IntKind.u64.wrap ((e : Int) + (e : Int) / 256) = ((e + e / 256 : Nat) : Int) := by rw [wrapu64]; have := HP.out.2.1; omega
  have w5 : IntKind.u64.wrap (((e + e / 256 : Nat) : Int) + ((e + e / 256 : Nat) : Int) / 65536) = ((e + e / 256 + (e + e / 256) / 65536 : Nat) : Int) := by rw [wrapu64]; have := HP.out.2.2.1; omega
  obtain ⟨s1, hs1⟩ : ∃ s1, s1 = e + e / 256 := ⟨_, rfl⟩
  rw [← hs1] at w4 w5 HP
  obtain ⟨s2, hs2⟩ : ∃ s2, s2 = s1 + s1 / 65536 := ⟨_, rfl⟩
  rw [← hs2] at w5 HP
  have w6 : IntKind.u64.wrap ((s2 : Int) + (s2 : Int) / 4294967296) = ((s2 + s2 / 4294967296 : Nat) : Int) := by rw [wrapu64]; have := HP.out.2.2.2; omega
  obtain ⟨s3, hs3⟩ : ∃ s3, s3 = s2 + s2 / 4294967296 := ⟨_, rfl⟩
  rw [← hs3] at w6 HP
  have hb3 : s3 < 9223372036854775808 := HP.out.2.2.2
  have w7 : bits .and .i64 (s3 : Int) 127 = ((pop 64 x : Nat) : Int) := by
    rw [← HP.out.1, i64_and127]
    omega
  clear HP hs1 hs2 hs3 l1 l2 l3 l4 l5
  go_enter Try.func41, Try.ntmps41
  go_wp2
  go_ret
  exact ⟨rfl, rfl⟩

end Go.Proofs.Ytodgdbbhllejkaa
