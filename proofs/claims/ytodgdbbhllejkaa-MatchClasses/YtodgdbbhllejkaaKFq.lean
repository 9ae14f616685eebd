/- Rounding: which rung is the nearest to a quotient of two numbers, told by midpoints; that 'nearest' finds it; that it rises; whole numbers that are floats. -/
import Derived.Test.YtodgdbbhllejkaaKFl
namespace Go.Proofs.Ytodgdbbhllejkaa
open Ieee

/-- Twice the midpoint of a rung and the next. -/
def mid (r : Nat) : Nat := vl r + vl (r + 1)
theorem mid_lt {r s : Nat} (h : r < s) : mid r < mid s := by
  unfold mid
  have h1 := vl_lt h
  have h2 := vl_lt (r := r + 1) (s := s + 1) (by omega)
  omega
theorem mid_le {r s : Nat} (h : r ≤ s) : mid r ≤ mid s := by
  rcases Nat.lt_or_eq_of_le h with h | h
  · exact Nat.le_of_lt (mid_lt h)
  · rw [h]; exact Nat.le_refl _

/-- Rung r is the nearest to p / q, between two the even one. -/
structure IsRd (r p q : Nat) : Prop where
  le : r ≤ infR
  lo : r = 0 ∨ q * mid (r - 1) < 2 * p ∨ (q * mid (r - 1) = 2 * p ∧ r % 2 = 0)
  hi : r = infR ∨ 2 * p < q * mid r ∨ (2 * p = q * mid r ∧ r % 2 = 0)

theorem IsRd.mono {r p q r' p' q' : Nat} (h : IsRd r p q) (h' : IsRd r' p' q') (hq : 0 < q) (hq' : 0 < q') (hle : p * q' ≤ p' * q) : r ≤ r' := by
  refine Nat.le_of_not_lt fun lt => ?_
  have hm : mid r' ≤ mid (r - 1) := mid_le (by omega)
  have a : q * mid (r - 1) ≤ 2 * p ∧ (q * mid (r - 1) = 2 * p → r % 2 = 0) := by
    rcases h.lo with e | e | e
    · omega
    · exact ⟨by omega, fun e' => by omega⟩
    · exact ⟨by omega, fun _ => e.2⟩
  have b : 2 * p' ≤ q' * mid r' ∧ (2 * p' = q' * mid r' → r' % 2 = 0) := by
    rcases h'.hi with e | e | e
    · have := h.le; omega
    · exact ⟨by omega, fun e' => by omega⟩
    · exact ⟨by omega, fun _ => e.2⟩
  -- q q' mid r' ≤ q q' mid (r-1) ≤ 2 p q' ≤ 2 p' q ≤ q q' mid r'
  have e1 : q' * (q * mid (r - 1)) ≤ q' * (2 * p) := Nat.mul_le_mul_left _ a.1
  have e2 : q * (2 * p') ≤ q * (q' * mid r') := Nat.mul_le_mul_left _ b.1
  have e3 : q * (q' * mid r') ≤ q * (q' * mid (r - 1)) := Nat.mul_le_mul_left _ (Nat.mul_le_mul_left _ hm)
  have e4 : q' * (q * mid (r - 1)) = q * (q' * mid (r - 1)) := Nat.mul_left_comm _ _ _
  have e5 : q' * (2 * p) = 2 * (p * q') := by rw [Nat.mul_left_comm, Nat.mul_comm q']
  have e6 : q * (2 * p') = 2 * (p' * q) := by rw [Nat.mul_left_comm, Nat.mul_comm q]
  have f1 : q * (q' * mid r') = q * (q' * mid (r - 1)) := by omega
  have f2 : mid r' = mid (r - 1) := Nat.eq_of_mul_eq_mul_left hq' (Nat.eq_of_mul_eq_mul_left hq f1)
  have f3 : r' = r - 1 := by
    rcases Nat.lt_trichotomy r' (r - 1) with x | x | x
    · exact absurd f2 (Nat.ne_of_lt (mid_lt x))
    · exact x
    · exact absurd f2.symm (Nat.ne_of_lt (mid_lt x))
  have g1 : q' * (q * mid (r - 1)) = q' * (2 * p) := by omega
  have g2 : q * (2 * p') = q * (q' * mid r') := by omega
  have p1 := a.2 (Nat.eq_of_mul_eq_mul_left hq' g1)
  have p2 := b.2 (Nat.eq_of_mul_eq_mul_left hq g2)
  omega

theorem IsRd.uniq {r p q r' p' q' : Nat} (h : IsRd r p q) (h' : IsRd r' p' q') (hq : 0 < q) (hq' : 0 < q') (he : p * q' = p' * q) : r = r' :=
  Nat.le_antisymm (h.mono h' hq hq' (Nat.le_of_eq he)) (h'.mono h hq' hq (Nat.le_of_eq he.symm))

theorem IsRd.exact {r : Nat} (h : r ≤ infR) : IsRd r (vl r) 1 := by
  refine ⟨h, ?_, ?_⟩
  · by_cases e : r = 0
    · exact Or.inl e
    · refine Or.inr (Or.inl ?_)
      unfold mid
      have := vl_lt (r := r - 1) (s := r) (by omega)
      rw [Nat.sub_add_cancel (by omega)]
      omega
  · refine Or.inr (Or.inl ?_)
    unfold mid
    have := vl_succ r
    omega

theorem IsRd.congr {r p q p' q' : Nat} (h : IsRd r p q) (hq : 0 < q) (hq' : 0 < q') (he : p * q' = p' * q) : IsRd r p' q' := by
  have cl : ∀ m, (q * m < 2 * p ↔ q' * m < 2 * p') ∧ (q * m = 2 * p ↔ q' * m = 2 * p') := by
    intro m
    have k1 : q' * (q * m) = q * (q' * m) := Nat.mul_left_comm _ _ _
    have k2 : q' * (2 * p) = q * (2 * p') := by
      rw [Nat.mul_left_comm, Nat.mul_comm q', he, Nat.mul_left_comm q, Nat.mul_comm q]
    constructor
    · rw [← Nat.mul_lt_mul_left hq', k1, k2, Nat.mul_lt_mul_left hq]
    · rw [← Nat.mul_right_inj (Nat.pos_iff_ne_zero.1 hq'), k1, k2, Nat.mul_right_inj (Nat.pos_iff_ne_zero.1 hq)]
  have cg : ∀ m, (2 * p < q * m ↔ 2 * p' < q' * m) := by
    intro m
    have := cl m
    omega
  refine ⟨h.le, ?_, ?_⟩
  · rw [← (cl _).1, ← (cl _).2]; exact h.lo
  · rw [← cg, @eq_comm _ (2 * p'), ← (cl _).2, @eq_comm _ _ (2 * p)]; exact h.hi

theorem vl_at {L k : Nat} (h1 : L = 0 ∨ 4503599627370496 ≤ k) (h2 : k ≤ 9007199254740992) : vl (L * 4503599627370496 + k) = k * 2 ^ L := by
  unfold vl
  by_cases e : k < 4503599627370496
  · have : L = 0 := by omega
    subst this
    rw [Nat.zero_mul, Nat.zero_add, if_pos e, Nat.pow_zero, Nat.mul_one]
  · rw [if_neg (by omega)]
    by_cases e2 : k < 9007199254740992
    · have a : (L * 4503599627370496 + k) / 4503599627370496 = L + 1 := by omega
      have b : 4503599627370496 + (L * 4503599627370496 + k) % 4503599627370496 = k := by omega
      rw [a, b, Nat.add_sub_cancel]
    · have ek : k = 9007199254740992 := by omega
      subst ek
      have a : (L * 4503599627370496 + 9007199254740992) / 4503599627370496 = L + 2 := by omega
      have b : 4503599627370496 + (L * 4503599627370496 + 9007199254740992) % 4503599627370496 = 4503599627370496 := by omega
      rw [a, b, show L + 2 - 1 = L + 1 from rfl, Nat.pow_succ]
      omega

/-- From the digits that are kept to the nearest rung. -/
theorem rd_of_kept {L k G P : Nat} (hG : 0 < G) (hA : 2 * P ≤ (2 * k + 1) * G) (hA' : 2 * P = (2 * k + 1) * G → k % 2 = 0)
    (hB : 2 * k * G ≤ 2 * P + G) (hB' : 2 * k * G = 2 * P + G → k % 2 = 0)
    (hC : P < 9007199254740992 * G) (hD : L = 0 ∨ 4503599627370496 * G ≤ P) :
    IsRd (min (L * 4503599627370496 + k) infR) (P * 2 ^ L) G := by
  have hT : 0 < 2 ^ L := Nat.two_pow_pos L
  have k1 : k ≤ 9007199254740992 := by
    refine Nat.le_of_not_lt fun lt => ?_
    have : (2 * 9007199254740993) * G ≤ 2 * k * G := Nat.mul_le_mul_right _ (by omega)
    omega
  have k2 : L = 0 ∨ 4503599627370496 ≤ k := by
    rcases hD with h | h
    · exact Or.inl h
    · refine Or.inr (Nat.le_of_not_lt fun lt => ?_)
      have : (2 * k + 1) * G ≤ (2 * 4503599627370495 + 1) * G := Nat.mul_le_mul_right _ (by omega)
      omega
  -- the rung itself, ahead of the lid
  have lo : L * 4503599627370496 + k = 0 ∨ G * mid (L * 4503599627370496 + k - 1) < 2 * (P * 2 ^ L) ∨ (G * mid (L * 4503599627370496 + k - 1) = 2 * (P * 2 ^ L) ∧ (L * 4503599627370496 + k) % 2 = 0) := by
    by_cases hk0 : k = 0
    · rcases k2 with h | h
      · left; rw [h, hk0]
      · omega
    · right
      obtain ⟨j, rfl⟩ : ∃ j, k = j + 1 := ⟨k - 1, by omega⟩
      have key : ∀ m : Nat, m * 2 ^ L * G < 2 * P * 2 ^ L ↔ m * G < 2 * P := by
        intro m
        rw [Nat.mul_right_comm, Nat.mul_lt_mul_right hT]
      by_cases hb : L = 0 ∨ 4503599627370496 ≤ j
      · have e1 : mid (L * 4503599627370496 + (j + 1) - 1) = (2 * j + 1) * 2 ^ L := by
          unfold mid
          rw [show L * 4503599627370496 + (j + 1) - 1 = L * 4503599627370496 + j from by omega, vl_at hb (by omega), Nat.add_assoc, vl_at k2 k1, ← Nat.add_mul]
          congr 1; omega
        rw [e1, Nat.mul_comm G, ← Nat.mul_assoc 2 P]
        have e2 : (2 * j + 1) * G + G = 2 * (j + 1) * G := by rw [← Nat.succ_mul]; rfl
        rcases Nat.lt_or_eq_of_le hB with h | h
        · left; rw [key]; omega
        · right
          refine ⟨?_, ?_⟩
          · rw [Nat.mul_right_comm]; congr 1; omega
          · have := hB' h; omega
      · have ej : j = 4503599627370495 := by omega
        subst ej
        obtain ⟨M, rfl⟩ : ∃ M, L = M + 1 := ⟨L - 1, by omega⟩
        left
        have e1 : mid ((M + 1) * 4503599627370496 + (4503599627370495 + 1) - 1) = (9007199254740991 + 9007199254740992) * 2 ^ M := by
          unfold mid
          rw [show (M + 1) * 4503599627370496 + (4503599627370495 + 1) - 1 = M * 4503599627370496 + 9007199254740991 from by omega, vl_at (by omega) (by omega), Nat.add_assoc, vl_at (by omega) (by omega), ← Nat.add_mul]
        rcases hD with h | h
        · omega
        · rw [e1, Nat.pow_succ]
          have t := Nat.two_pow_pos M
          have : G * ((9007199254740991 + 9007199254740992) * 2 ^ M) < 2 * (P * (2 ^ M * 2)) := by
            have a1 : G * ((9007199254740991 + 9007199254740992) * 2 ^ M) = 18014398509481983 * (G * 2 ^ M) := by rw [Nat.mul_left_comm]
            have a2 : 2 * (P * (2 ^ M * 2)) = 4 * (P * 2 ^ M) := by rw [← Nat.mul_assoc P]; omega
            have a3 : 4503599627370496 * G * 2 ^ M ≤ P * 2 ^ M := Nat.mul_le_mul_right _ h
            have a4 : 4503599627370496 * G * 2 ^ M = 4503599627370496 * (G * 2 ^ M) := Nat.mul_assoc _ _ _
            have a5 : 0 < G * 2 ^ M := Nat.mul_pos hG t
            omega
          exact this
  have hi : 2 * (P * 2 ^ L) < G * mid (L * 4503599627370496 + k) ∨ (2 * (P * 2 ^ L) = G * mid (L * 4503599627370496 + k) ∧ (L * 4503599627370496 + k) % 2 = 0) := by
    by_cases hk : k < 9007199254740992
    · have e1 : mid (L * 4503599627370496 + k) = (2 * k + 1) * 2 ^ L := by
        unfold mid
        rw [vl_at k2 k1, Nat.add_assoc, vl_at (by omega) (by omega), ← Nat.add_mul]
        congr 1; omega
      rw [e1, Nat.mul_comm G, ← Nat.mul_assoc 2 P, Nat.mul_right_comm _ _ G]
      rcases Nat.lt_or_eq_of_le hA with h | h
      · left; exact (Nat.mul_lt_mul_right hT).2 h
      · right; exact ⟨by rw [h], by have := hA' h; omega⟩
    · have ek : k = 9007199254740992 := by omega
      left
      have h1 : vl (L * 4503599627370496 + k) = k * 2 ^ L := vl_at k2 k1
      have h2 : vl (L * 4503599627370496 + k) < vl (L * 4503599627370496 + k + 1) := vl_succ _
      have h3 : 2 * (k * 2 ^ L) < mid (L * 4503599627370496 + k) := by unfold mid; omega
      have h4 : P * 2 ^ L < 9007199254740992 * G * 2 ^ L := (Nat.mul_lt_mul_right hT).2 hC
      have h5 : G * (2 * (k * 2 ^ L)) ≤ G * mid (L * 4503599627370496 + k) := Nat.mul_le_mul_left _ (Nat.le_of_lt h3)
      have h6 : G * (2 * (k * 2 ^ L)) = 2 * (9007199254740992 * G * 2 ^ L) := by
        rw [ek, Nat.mul_left_comm, Nat.mul_left_comm G, Nat.mul_assoc 9007199254740992]
      omega
  by_cases hl : L * 4503599627370496 + k < infR
  · rw [Nat.min_eq_left (Nat.le_of_lt hl)]
    exact ⟨Nat.le_of_lt hl, lo, Or.inr hi⟩
  · rw [Nat.min_eq_right (by omega)]
    refine ⟨Nat.le_refl _, ?_, Or.inl rfl⟩
    right
    have hm : mid (infR - 1) ≤ mid (L * 4503599627370496 + k - 1) := mid_le (by omega)
    have hm' : G * mid (infR - 1) ≤ G * mid (L * 4503599627370496 + k - 1) := Nat.mul_le_mul_left _ hm
    have hne : L * 4503599627370496 + k ≠ 0 := by unfold infR at hl; omega
    rcases lo with h | h | h
    · exact absurd h hne
    · left; omega
    · rcases Nat.lt_or_eq_of_le (show G * mid (infR - 1) ≤ 2 * (P * 2 ^ L) by omega) with x | x
      · exact Or.inl x
      · exact Or.inr ⟨x, by decide⟩

end Go.Proofs.Ytodgdbbhllejkaa
