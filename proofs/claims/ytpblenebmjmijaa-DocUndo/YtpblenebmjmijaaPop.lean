/- Counting the bits of a word by sums of parts. -/
import Derived.Test.YtpblenebmjmijaaPix
namespace Go.Proofs.Ytpblenebmjmijaa

def mask (c : Nat) : Nat → Nat
  | 0 => 0
  | n + 1 => c + 256 * mask c n

theorem and_split (x c m : Nat) (hc : c < 256) : x &&& (c + 256 * m) = (x % 256 &&& c) + 256 * (x / 256 &&& m) := by
  have h1 := Nat.and_mod_two_pow (a := x) (b := c + 256 * m) (n := 8)
  have h2 := Nat.and_div_two_pow (a := x) (b := c + 256 * m) (n := 8)
  rw [show (2 : Nat) ^ 8 = 256 from rfl] at h1 h2
  rw [show (c + 256 * m) % 256 = c from by omega] at h1
  rw [show (c + 256 * m) / 256 = m from by omega] at h2
  have := Nat.div_add_mod (x &&& (c + 256 * m)) 256
  omega

def g1 (b : Nat) : Nat := (b / 2 &&& 85) + (b &&& 85)
def g2 (b : Nat) : Nat := (b / 4 &&& 51) + (b &&& 51)
def f1 (n x : Nat) : Nat := (x / 2 &&& mask 85 n) + (x &&& mask 85 n)
def f2 (n y : Nat) : Nat := (y / 4 &&& mask 51 n) + (y &&& mask 51 n)
def f3 (n z : Nat) : Nat := (z / 16 + z) &&& mask 15 n

theorem fin1 : ∀ u : Fin 128, ∀ t : Fin 2, (u.val + 128 * t.val) &&& 85 = u.val &&& 85 := by decide +kernel
theorem fin2 : ∀ u : Fin 64, ∀ t : Fin 4, (u.val + 64 * t.val) &&& 51 = u.val &&& 51 := by decide +kernel
theorem fin3 : ∀ b : Fin 256, g1 b.val < 256 ∧ g2 b.val < 256 ∧ g2 (g1 b.val) % 16 ≤ 4 ∧ g2 (g1 b.val) / 16 ≤ 4 ∧ g2 (g1 b.val) % 16 + g2 (g1 b.val) / 16 = pop 8 b.val := by decide +kernel
theorem fin4 : ∀ b : Fin 256, b.val &&& 15 = b.val % 16 := by decide +kernel

theorem f1_step (n x : Nat) : f1 (n + 1) x = g1 (x % 256) + 256 * f1 n (x / 256) := by
  unfold f1 g1
  rw [show mask 85 (n + 1) = 85 + 256 * mask 85 n from rfl, and_split _ _ _ (by omega), and_split _ _ _ (by omega)]
  have h1 : x / 2 % 256 = x % 256 / 2 + 128 * (x / 256 % 2) := by omega
  have h2 := fin1 ⟨x % 256 / 2, by omega⟩ ⟨x / 256 % 2, by omega⟩
  simp only at h2
  rw [h1, h2, show x / 2 / 256 = x / 256 / 2 from by omega]
  omega
theorem f2_step (n x : Nat) : f2 (n + 1) x = g2 (x % 256) + 256 * f2 n (x / 256) := by
  unfold f2 g2
  rw [show mask 51 (n + 1) = 51 + 256 * mask 51 n from rfl, and_split _ _ _ (by omega), and_split _ _ _ (by omega)]
  have h1 : x / 4 % 256 = x % 256 / 4 + 64 * (x / 256 % 4) := by omega
  have h2 := fin2 ⟨x % 256 / 4, by omega⟩ ⟨x / 256 % 4, by omega⟩
  simp only at h2
  rw [h1, h2, show x / 4 / 256 = x / 256 / 4 from by omega]
  omega
theorem f3_step (n z0 z : Nat) (h0 : z0 % 16 ≤ 4) (h1 : z0 / 16 ≤ 4) (h2 : z % 16 ≤ 4) : f3 (n + 1) (z0 + 256 * z) = (z0 % 16 + z0 / 16) + 256 * f3 n z := by
  unfold f3
  rw [show mask 15 (n + 1) = 15 + 256 * mask 15 n from rfl, and_split _ _ _ (by omega)]
  rw [show ((z0 + 256 * z) / 16 + (z0 + 256 * z)) / 256 = z / 16 + z from by omega]
  have h3 := fin4 ⟨((z0 + 256 * z) / 16 + (z0 + 256 * z)) % 256, by omega⟩
  simp only at h3
  rw [h3]
  omega

theorem two_step (n x : Nat) : f2 (n + 1) (f1 (n + 1) x) = g2 (g1 (x % 256)) + 256 * f2 n (f1 n (x / 256)) := by
  have := fin3 ⟨x % 256, by omega⟩
  simp only at this
  rw [f2_step, f1_step, show (g1 (x % 256) + 256 * f1 n (x / 256)) % 256 = g1 (x % 256) from by omega, show (g1 (x % 256) + 256 * f1 n (x / 256)) / 256 = f1 n (x / 256) from by omega]
theorem two_low (n x : Nat) : f2 n (f1 n x) % 16 ≤ 4 := by
  cases n with
  | zero => simp [f2, f1, mask]
  | succ n =>
    have := fin3 ⟨x % 256, by omega⟩
    simp only at this
    rw [two_step]; omega
theorem three_step (n x : Nat) : f3 (n + 1) (f2 (n + 1) (f1 (n + 1) x)) = pop 8 (x % 256) + 256 * f3 n (f2 n (f1 n (x / 256))) := by
  have := fin3 ⟨x % 256, by omega⟩
  simp only at this
  rw [two_step, f3_step _ _ _ this.2.2.1 this.2.2.2.1 (two_low _ _), this.2.2.2.2]

theorem pop_step (n x : Nat) : pop (n + 8) x = pop 8 (x % 256) + pop n (x / 256) := by
  simp only [pop, Nat.div_div_eq_div_mul, Nat.reduceMul]
  omega
theorem pop8_le (x : Nat) : pop 8 x ≤ 8 := pop_le 8 x

theorem mask85 : mask 85 8 = 6148914691236517205 := by decide
theorem mask51 : mask 51 8 = 3689348814741910323 := by decide
theorem mask15 : mask 15 8 = 1085102592571150095 := by decide

theorem f123 (x : Nat) (h : x < 18446744073709551616) : ∃ p0 p1 p2 p3 p4 p5 p6 p7 : Nat, (p0 ≤ 8 ∧ p1 ≤ 8 ∧ p2 ≤ 8 ∧ p3 ≤ 8 ∧ p4 ≤ 8 ∧ p5 ≤ 8 ∧ p6 ≤ 8 ∧ p7 ≤ 8) ∧ f3 8 (f2 8 (f1 8 x)) = p0 + 256 * (p1 + 256 * (p2 + 256 * (p3 + 256 * (p4 + 256 * (p5 + 256 * (p6 + 256 * p7)))))) ∧ pop 64 x = p0 + p1 + p2 + p3 + p4 + p5 + p6 + p7 := by
  have hz : ∀ x, f3 0 (f2 0 (f1 0 x)) = 0 := by intro x; simp [f3, mask]
  refine ⟨pop 8 (x % 256), pop 8 (x / 256 % 256), pop 8 (x / 256 / 256 % 256), pop 8 (x / 256 / 256 / 256 % 256), pop 8 (x / 256 / 256 / 256 / 256 % 256), pop 8 (x / 256 / 256 / 256 / 256 / 256 % 256), pop 8 (x / 256 / 256 / 256 / 256 / 256 / 256 % 256), pop 8 (x / 256 / 256 / 256 / 256 / 256 / 256 / 256 % 256), ⟨pop8_le _, pop8_le _, pop8_le _, pop8_le _, pop8_le _, pop8_le _, pop8_le _, pop8_le _⟩, ?_, ?_⟩
  · simp only [three_step, hz, Nat.mul_zero, Nat.add_zero]
  · have k0 := pop_step 56 x
    have k1 := pop_step 48 (x / 256)
    have k2 := pop_step 40 (x / 256 / 256)
    have k3 := pop_step 32 (x / 256 / 256 / 256)
    have k4 := pop_step 24 (x / 256 / 256 / 256 / 256)
    have k5 := pop_step 16 (x / 256 / 256 / 256 / 256 / 256)
    have k6 := pop_step 8 (x / 256 / 256 / 256 / 256 / 256 / 256)
    simp only [Nat.reduceAdd] at k0 k1 k2 k3 k4 k5 k6
    rw [show x / 256 / 256 / 256 / 256 / 256 / 256 / 256 % 256 = x / 256 / 256 / 256 / 256 / 256 / 256 / 256 from by omega]
    rw [k0, k1, k2, k3, k4, k5, k6]
    simp only [Nat.add_assoc]

theorem div1 (p q : Nat) (h : p < 256) : (p + 256 * q) / 256 = q := by omega
theorem div2 (p r q : Nat) (h : p < 256) (h2 : r < 256) : (p + 256 * (r + 256 * q)) / 65536 = q := by omega
theorem div4 (p r s t q : Nat) (h : p < 256) (h2 : r < 256) (h3 : s < 256) (h4 : t < 256) : (p + 256 * (r + 256 * (s + 256 * (t + 256 * q)))) / 4294967296 = q := by omega
theorem mod128 (p q : Nat) (h : p < 128) : (p + 256 * q) % 128 = p := by omega

theorem lb {p q B : Nat} (hp : p ≤ 64) (hq : q ≤ B) : p + 256 * q ≤ 64 + 256 * B := by omega

theorem ones_sum (p0 p1 p2 p3 p4 p5 p6 p7 : Nat) (h0 : p0 ≤ 8) (h1 : p1 ≤ 8) (h2 : p2 ≤ 8) (h3 : p3 ≤ 8) (h4 : p4 ≤ 8) (h5 : p5 ≤ 8) (h6 : p6 ≤ 8) (h7 : p7 ≤ 8) (e : Nat) (he : e = p0 + 256 * (p1 + 256 * (p2 + 256 * (p3 + 256 * (p4 + 256 * (p5 + 256 * (p6 + 256 * p7))))))) :
    (e + e / 256 < 9223372036854775808 ∧ (e + e / 256) + (e + e / 256) / 65536 < 9223372036854775808 ∧ (e + e / 256) + (e + e / 256) / 65536 + ((e + e / 256) + (e + e / 256) / 65536) / 4294967296 < 9223372036854775808) ∧
    ((e + e / 256) + (e + e / 256) / 65536 + ((e + e / 256) + (e + e / 256) / 65536) / 4294967296) % 128 = p0 + p1 + p2 + p3 + p4 + p5 + p6 + p7 := by
  obtain ⟨s1, hs1⟩ : ∃ s1, s1 = e + e / 256 := ⟨_, rfl⟩
  have e1 : s1 = (p0 + p1) + 256 * ((p1 + p2) + 256 * ((p2 + p3) + 256 * ((p3 + p4) + 256 * ((p4 + p5) + 256 * ((p5 + p6) + 256 * ((p6 + p7) + 256 * p7)))))) := by
    rw [hs1, he, div1 _ _ (by omega)]; omega
  rw [← hs1]
  obtain ⟨s2, hs2⟩ : ∃ s2, s2 = s1 + s1 / 65536 := ⟨_, rfl⟩
  have e2 : s2 = (p0 + p1 + p2 + p3) + 256 * ((p1 + p2 + p3 + p4) + 256 * ((p2 + p3 + p4 + p5) + 256 * ((p3 + p4 + p5 + p6) + 256 * ((p4 + p5 + p6 + p7) + 256 * ((p5 + p6 + p7) + 256 * ((p6 + p7) + 256 * p7)))))) := by
    rw [hs2, e1, div2 _ _ _ (by omega) (by omega)]; omega
  rw [← hs2]
  obtain ⟨s3, hs3⟩ : ∃ s3, s3 = s2 + s2 / 4294967296 := ⟨_, rfl⟩
  have e3 : s3 = (p0 + p1 + p2 + p3 + p4 + p5 + p6 + p7) + 256 * ((p1 + p2 + p3 + p4 + p5 + p6 + p7) + 256 * ((p2 + p3 + p4 + p5 + p6 + p7) + 256 * ((p3 + p4 + p5 + p6 + p7) + 256 * ((p4 + p5 + p6 + p7) + 256 * ((p5 + p6 + p7) + 256 * ((p6 + p7) + 256 * p7)))))) := by
    rw [hs3, e2, div4 _ _ _ _ _ (by omega) (by omega) (by omega) (by omega)]; omega
  rw [← hs3]
  clear hs1 hs2 hs3 he
  have b1 : s1 < 9223372036854775808 := by
    rw [e1]; clear e1 e2 e3
    exact Nat.lt_of_le_of_lt (lb (by omega) (lb (by omega) (lb (by omega) (lb (by omega) (lb (by omega) (lb (by omega) (lb (by omega) (show p7 ≤ 64 by omega)))))))) (by decide)
  have b2 : s2 < 9223372036854775808 := by
    rw [e2]; clear e1 e2 e3
    exact Nat.lt_of_le_of_lt (lb (by omega) (lb (by omega) (lb (by omega) (lb (by omega) (lb (by omega) (lb (by omega) (lb (by omega) (show p7 ≤ 64 by omega)))))))) (by decide)
  have b3 : s3 < 9223372036854775808 := by
    rw [e3]; clear e1 e2 e3
    exact Nat.lt_of_le_of_lt (lb (by omega) (lb (by omega) (lb (by omega) (lb (by omega) (lb (by omega) (lb (by omega) (lb (by omega) (show p7 ≤ 64 by omega)))))))) (by decide)
  refine ⟨⟨b1, b2, b3⟩, ?_⟩
  rw [e3]; clear e1 e2 e3 b1 b2 b3
  exact mod128 _ _ (by omega)

/-- The numbers that the count goes through. -/
theorem ones_road (x : Nat) (h : x < 18446744073709551616) : ∃ a b c d e : Nat, x / 2 &&& 6148914691236517205 = a ∧ x &&& 6148914691236517205 = b ∧ (a + b) / 4 &&& 3689348814741910323 = c ∧ (a + b) &&& 3689348814741910323 = d ∧ ((c + d) / 16 + (c + d)) &&& 1085102592571150095 = e ∧
    (a ≤ 6148914691236517205 ∧ b ≤ 6148914691236517205 ∧ c ≤ 3689348814741910323 ∧ d ≤ 3689348814741910323 ∧ e ≤ 1085102592571150095) ∧ (e + e / 256 < 9223372036854775808 ∧ (e + e / 256) + (e + e / 256) / 65536 < 9223372036854775808 ∧ (e + e / 256) + (e + e / 256) / 65536 + ((e + e / 256) + (e + e / 256) / 65536) / 4294967296 < 9223372036854775808) ∧
    ((e + e / 256) + (e + e / 256) / 65536 + ((e + e / 256) + (e + e / 256) / 65536) / 4294967296) % 128 = pop 64 x := by
  obtain ⟨p0, p1, p2, p3, p4, p5, p6, p7, ⟨h0, h1, h2, h3, h4, h5, h6, h7⟩, hf, hp⟩ := f123 x h
  unfold f3 f2 f1 at hf
  rw [mask85, mask51, mask15] at hf
  obtain ⟨a, ha⟩ : ∃ a, x / 2 &&& 6148914691236517205 = a := ⟨_, rfl⟩
  obtain ⟨b, hb⟩ : ∃ b, x &&& 6148914691236517205 = b := ⟨_, rfl⟩
  rw [ha, hb] at hf
  obtain ⟨c, hc⟩ : ∃ c, (a + b) / 4 &&& 3689348814741910323 = c := ⟨_, rfl⟩
  obtain ⟨d, hd⟩ : ∃ d, (a + b) &&& 3689348814741910323 = d := ⟨_, rfl⟩
  rw [hc, hd] at hf
  obtain ⟨e, he⟩ : ∃ e, ((c + d) / 16 + (c + d)) &&& 1085102592571150095 = e := ⟨_, rfl⟩
  rw [he] at hf
  refine ⟨a, b, c, d, e, ha, hb, hc, hd, he, ⟨ha ▸ Nat.and_le_right, hb ▸ Nat.and_le_right, hc ▸ Nat.and_le_right, hd ▸ Nat.and_le_right, he ▸ Nat.and_le_right⟩, ?_⟩
  rw [hp]
  exact ones_sum p0 p1 p2 p3 p4 p5 p6 p7 h0 h1 h2 h3 h4 h5 h6 h7 e hf

end Go.Proofs.Ytpblenebmjmijaa
