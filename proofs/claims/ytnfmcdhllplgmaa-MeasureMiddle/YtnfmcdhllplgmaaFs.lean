/- Shares: what a quotient of two whole numbers is, how it rises, how near a share and the rest come to 1. -/
import Derived.Test.YtnfmcdhllplgmaaSh
import Derived.Test.YtnfmcdhllplgmaaFa
namespace Go.Proofs.Ytnfmcdhllplgmaa
open Ieee

theorem neg_xor {x : Nat} (h : x < 9223372036854775808) : x ^^^ 9223372036854775808 = 9223372036854775808 + x := by
  have e : (9223372036854775808 : Nat) = 2 ^ 63 := by decide
  rw [e] at *
  refine Nat.eq_of_testBit_eq fun i => ?_
  rw [Nat.testBit_xor, Nat.testBit_two_pow]
  rcases Nat.lt_trichotomy i 63 with c | c | c
  · rw [Nat.testBit_two_pow_add_gt c, decide_eq_false (by omega), Bool.xor_false]
  · subst c
    rw [Nat.testBit_two_pow_add_eq, decide_eq_true rfl, Bool.xor_true]
  · have h1 : x < 2 ^ i := Nat.lt_of_lt_of_le h (Nat.pow_le_pow_right (n := 2) (by decide) (show 63 ≤ i by omega))
    have h2 : 2 ^ 63 + x < 2 ^ i := by
      have : 2 ^ 64 ≤ 2 ^ i := Nat.pow_le_pow_right (by decide) (by omega)
      omega
    rw [Nat.testBit_lt_two_pow h1, Nat.testBit_lt_two_pow h2, decide_eq_false (by omega)]; rfl
theorem negFloat_ng {x : Nat} (h : x < 18446744073709551616) (hr : rg x ≤ infR) : Op.negFloat .f64 x = ng x := by
  show x ^^^ 2 ^ 63 = _
  rw [show (2 : Nat) ^ 63 = 9223372036854775808 from by decide]
  have hx := wo_rg h
  have hl := rg_lt x
  unfold ng
  cases hs : sg x
  · rw [hs] at hx
    have : x = rg x := by rw [← hx]; exact (rg_wo hr).symm ▸ rfl
    rw [neg_xor (by omega)]
    show _ = 9223372036854775808 + rg x
    omega
  · rw [hs] at hx
    have e1 : x = 9223372036854775808 + rg x := hx.symm
    show x ^^^ 9223372036854775808 = rg x
    rw [e1, ← neg_xor hl, Nat.xor_assoc, Nat.xor_self, Nat.xor_zero]
    rw [neg_xor hl]
    show rg x = rg (wo true (rg x))
    rw [rg_wo hr]
theorem isN_ng {x : Nat} (h : rg x ≤ infR) : isN (ng x) = false := isN_no (by rw [rg_ng h]; exact h)

/-- How far a rung lies below the next. -/
theorem vl_gap (r : Nat) : vl (r + 1) = vl r + 2 ^ (r / 4503599627370496 - 1) := by
  unfold vl
  by_cases h1 : r < 4503599627370496
  · rw [if_pos h1, Nat.div_eq_of_lt h1]
    by_cases h2 : r + 1 < 4503599627370496
    · rw [if_pos h2]
    · have e : r = 4503599627370495 := by omega
      subst e; decide
  · rw [if_neg h1, if_neg (by omega)]
    obtain ⟨q, hq⟩ : ∃ q, r / 4503599627370496 = q + 1 := ⟨r / 4503599627370496 - 1, by omega⟩
    by_cases h3 : r % 4503599627370496 + 1 < 4503599627370496
    · have e1 : (r + 1) / 4503599627370496 = q + 1 := by omega
      have e2 : (r + 1) % 4503599627370496 = r % 4503599627370496 + 1 := by omega
      rw [e1, e2, hq, ← Nat.add_assoc, Nat.add_mul _ 1, Nat.one_mul]
    · have e1 : (r + 1) / 4503599627370496 = q + 2 := by omega
      have e2 : (r + 1) % 4503599627370496 = 0 := by omega
      have e3 : r % 4503599627370496 = 4503599627370495 := by omega
      rw [e1, e2, hq, e3, show q + 2 - 1 = q + 1 from rfl, show q + 1 - 1 = q from rfl, Nat.pow_succ]
      omega
theorem gap_mono {r s : Nat} (h : r ≤ s) : 2 ^ (r / 4503599627370496 - 1) ≤ 2 ^ (s / 4503599627370496 - 1) :=
  Nat.pow_le_pow_right (by decide) (by have := Nat.div_le_div_right (c := 4503599627370496) h; omega)

def kG : Nat := 1022
theorem vl_one : vl oneW = 2 ^ kE := by
  have h := vl_at (L := kG) (k := 4503599627370496) (Or.inr (Nat.le_refl _)) (by decide)
  rw [show kG * 4503599627370496 + 4503599627370496 = oneW from by decide] at h
  rw [h, show kE = 52 + kG from by decide, Nat.pow_add]

theorem one_gap : oneW / 4503599627370496 - 1 = kG := by decide
theorem aux1 (D a b G : Nat) : 2 * D * (a + b + G) = D * (2 * a + G) + D * (2 * b + G) := by
  rw [← Nat.mul_add, Nat.mul_comm 2, Nat.mul_assoc]; congr 1; omega
theorem aux2 (D a b : Nat) : 2 * D * (a + b) = D * (2 * a) + D * (2 * b) := by
  rw [← Nat.mul_add, Nat.mul_comm 2, Nat.mul_assoc]; congr 1; omega
theorem gap_one {r : Nat} (h : r ≤ oneW) : 2 ^ (r / 4503599627370496 - 1) ≤ 2 ^ kG := by
  have := gap_mono h
  rw [one_gap] at this; exact this

/-- How near a rung comes to what it is nearest to, up to 1. -/
theorem near_rd {r p q : Nat} (h : IsRd r p q) (hr : r ≤ oneW) : 2 * p ≤ q * (2 * vl r + 2 ^ kG) ∧ q * (2 * vl r) ≤ 2 * p + q * 2 ^ kG := by
  have g1 : 2 ^ (r / 4503599627370496 - 1) ≤ 2 ^ kG := gap_one hr
  constructor
  · have hm : mid r ≤ 2 * vl r + 2 ^ kG := by unfold mid; rw [vl_gap]; omega
    have := Nat.mul_le_mul_left q hm
    rcases h.hi with e | e | e
    · exact absurd hr (by rw [e]; decide)
    · omega
    · omega
  · by_cases h0 : r = 0
    · rw [h0]; show q * 0 ≤ _; omega
    · obtain ⟨s, rfl⟩ : ∃ s, r = s + 1 := ⟨r - 1, by omega⟩
      have g2 : 2 ^ (s / 4503599627370496 - 1) ≤ 2 ^ kG := gap_one (by omega)
      have hm : 2 * vl (s + 1) ≤ mid s + 2 ^ kG := by unfold mid; rw [vl_gap]; omega
      have h2 := Nat.mul_le_mul_left q hm
      rw [Nat.mul_add] at h2
      rcases h.lo with e | e | e
      · exact absurd e (by omega)
      · rw [Nat.add_sub_cancel] at e; omega
      · rw [Nat.add_sub_cancel] at e; omega

/-- A share, by cases. -/
theorem ShP.cases {n d : Int} {x : Nat} (h : ShP n d x) (hn : exB n = true) (hd : exB d = true) :
    (n = 0 ∧ d = 0 ∧ isN x = true) ∨ (d = 0 ∧ n ≠ 0 ∧ x = wo (decide (n < 0)) infR) ∨
    (d ≠ 0 ∧ ∃ r, x = wo (decide (n < 0) ^^ decide (d < 0)) r ∧ IsRd r (n.natAbs * 2 ^ kE) d.natAbs) := by
  by_cases h0 : d = 0
  · subst h0
    by_cases hn0 : n = 0
    · subst hn0
      left
      refine ⟨rfl, rfl, ?_⟩
      rcases h.2 with e | ⟨_, e⟩
      · have : floatBits .quo .f64 (fi 0) (fi 0) = none := by decide
        rw [this] at e; cases e
      · exact e
    · right; left
      refine ⟨rfl, hn0, ?_⟩
      rcases h.2 with e | ⟨e, _⟩
      · rw [div_by_zero hn hn0] at e; cases e; rfl
      · rw [div_by_zero hn hn0] at e; cases e
  · right; right
    refine ⟨h0, ?_⟩
    have bn : n.natAbs ≤ 9007199254740992 := by
      unfold exB at hn; rw [Bool.and_eq_true, decide_eq_true_iff, decide_eq_true_iff] at hn; omega
    have bd : d.natAbs ≤ 9007199254740992 := by
      unfold exB at hd; rw [Bool.and_eq_true, decide_eq_true_iff, decide_eq_true_iff] at hd; omega
    obtain ⟨n1, n2, n3⟩ := fi_spec bn
    obtain ⟨d1, d2, d3⟩ := fi_spec bd
    have hU : 0 < 2 ^ kE := Nat.two_pow_pos _
    have hd0 : rg (fi d) ≠ 0 := by
      intro e; rw [e] at d2
      have : 0 < d.natAbs * 2 ^ kE := Nat.mul_pos (by omega) hU
      rw [← d2] at this; exact absurd this (by decide)
    obtain ⟨r, e, hr⟩ := div_spec n1 d1 hd0
    rw [n3, d3] at e
    rw [n2, d2] at hr
    refine ⟨r, ?_, hr.congr (Nat.mul_pos (by omega) hU) (by omega) ?_⟩
    · rcases h.2 with k | ⟨k, _⟩
      · rw [e] at k; cases k; rfl
      · rw [e] at k; cases k
    · generalize 2 ^ kE = U
      ac_rfl

theorem isN_wo {s : Bool} {r : Nat} (h : r ≤ infR) : isN (wo s r) = false := isN_no (by rw [rg_wo h]; exact h)

theorem IsRd.zero {r q : Nat} (h : IsRd r 0 q) (hq : 0 < q) : r = 0 := by
  refine h.uniq (r' := 0) (p' := 0) (q' := 1) ⟨Nat.zero_le _, Or.inl rfl, Or.inr (Or.inl (by decide))⟩ hq (by decide) (by simp)

/-- A share of multiples is the share. -/
theorem ShP.scaled {n d k : Int} {x y : Nat} (hk : 0 < k) (hx : ShP n d x) (hy : ShP (k * n) (k * d) y) (e1 : exB n = true) (e2 : exB d = true) (e3 : exB (k * n) = true) (e4 : exB (k * d) = true) :
    (isN x = true ↔ n = 0 ∧ d = 0) ∧ isN y = isN x ∧ (isN x = false → eqB x y = true) := by
  have s1 : decide (k * n < 0) = decide (n < 0) := decide_eq_decide.2 (by constructor <;> intro h; (rcases Int.lt_or_le n 0 with c | c; exact c; (have := Int.mul_nonneg (Int.le_of_lt hk) c; omega)); exact Int.mul_neg_of_pos_of_neg hk h)
  have s2 : decide (k * d < 0) = decide (d < 0) := decide_eq_decide.2 (by constructor <;> intro h; (rcases Int.lt_or_le d 0 with c | c; exact c; (have := Int.mul_nonneg (Int.le_of_lt hk) c; omega)); exact Int.mul_neg_of_pos_of_neg hk h)
  have z : ∀ m : Int, k * m = 0 ↔ m = 0 := fun m => by rw [Int.mul_eq_zero]; omega
  rcases hx.cases e1 e2 with ⟨a, b, c⟩ | ⟨a, b, c⟩ | ⟨a, r, b, c⟩ <;> rcases hy.cases e3 e4 with ⟨a', b', c'⟩ | ⟨a', b', c'⟩ | ⟨a', r', b', c'⟩
  · rw [c, c']; exact ⟨by simp [a, b], rfl, fun h => by cases h⟩
  · rw [a] at b'; simp at b'
  · rw [b] at a'; simp at a'
  · rw [z] at a'; exact absurd a' b
  · rw [c, c', s1, isN_wo (Nat.le_refl _)]
    refine ⟨by simp [b], rfl, fun _ => ?_⟩
    rw [eqB_self, isN_wo (Nat.le_refl _)]; rfl
  · rw [a] at a'; simp at a'
  · rw [z] at b'; exact absurd b' a
  · rw [z] at a'; exact absurd a' a
  · rw [s1, s2] at b'
    have er : r = r' := by
      refine c.uniq c' (by omega) (by rw [Int.natAbs_mul]; exact Nat.mul_pos (by omega) (by omega)) ?_
      rw [Int.natAbs_mul, Int.natAbs_mul]; generalize 2 ^ kE = U; ac_rfl
    rw [b, b', ← er, isN_wo c.le]
    refine ⟨by simp [a], rfl, fun _ => ?_⟩
    rw [eqB_self, isN_wo c.le]; rfl

/-- With the other sign it is the other way. -/
theorem ShP.neg {n d : Int} {x m : Nat} (hx : ShP n d x) (hm : ShP (-n) d m) (e1 : exB n = true) (e2 : exB d = true) (e3 : exB (-n) = true) (nx : isN x = false) :
    eqB m (Op.negFloat .f64 x) = true := by
  rw [negFloat_ng hx.1 (isN_false nx)]
  unfold eqB
  rw [isN_ng (isN_false nx), sk_ng (isN_false nx)]
  rcases hx.cases e1 e2 with ⟨a, b, c⟩ | ⟨a, b, c⟩ | ⟨a, r, b, c⟩ <;> rcases hm.cases e3 e2 with ⟨a', b', c'⟩ | ⟨a', b', c'⟩ | ⟨a', r', b', c'⟩
  · rw [c] at nx; cases nx
  · omega
  · omega
  · omega
  · rw [c', isN_wo (Nat.le_refl _), c, sk_wo (Nat.le_refl _), sk_wo (Nat.le_refl _)]
    by_cases h : n < 0
    · rw [decide_eq_true h, decide_eq_false (show ¬ -n < 0 by omega)]; simp
    · rw [decide_eq_false h, decide_eq_true (show -n < 0 by omega)]; simp
  · omega
  · omega
  · omega
  · rw [Int.natAbs_neg] at c'
    have er : r = r' := c.uniq c' (by omega) (by omega) rfl
    rw [b', isN_wo c'.le, b, sk_wo c'.le, sk_wo c.le, ← er]
    by_cases h0 : n = 0
    · subst h0
      have : r = 0 := IsRd.zero (q := d.natAbs) (by simpa using c) (by omega)
      rw [this]; simp
    · by_cases h : n < 0
      · rw [decide_eq_true h, decide_eq_false (show ¬ -n < 0 by omega)]; cases decide (d < 0) <;> simp
      · rw [decide_eq_false h, decide_eq_true (show -n < 0 by omega)]; cases decide (d < 0) <;> simp

/-- Of shares with one whole the one with more is not less. -/
theorem ShP.more {n d : Int} {x m : Nat} (hd : 0 < d) (hx : ShP n d x) (hm : ShP (n + 1) d m) (e1 : exB n = true) (e2 : exB d = true) (e3 : exB (n + 1) = true) : ltB m x = false := by
  rcases hx.cases e1 e2 with ⟨a, b, c⟩ | ⟨a, b, c⟩ | ⟨a, r, b, c⟩
  · omega
  · omega
  · rcases hm.cases e3 e2 with ⟨a', b', c'⟩ | ⟨a', b', c'⟩ | ⟨a', r', b', c'⟩
    · omega
    · omega
    · have hdf : decide (d < 0) = false := decide_eq_false (by omega)
      rw [hdf, Bool.xor_false] at b b'
      unfold ltB
      rw [b, b', sk_wo c.le, sk_wo c'.le]
      rw [Bool.and_eq_false_iff]; right
      refine decide_eq_false ?_
      by_cases h : n < 0
      · have hle : r' ≤ r := by
          refine c'.mono c (by omega) (by omega) (Nat.mul_le_mul_right _ (Nat.mul_le_mul_right _ ?_)); omega
        rw [decide_eq_true h]
        by_cases h' : n + 1 < 0
        · rw [decide_eq_true h']; simp; omega
        · rw [decide_eq_false h']; simp only [if_true, if_false, Bool.false_eq_true]; omega
      · have hle : r ≤ r' := by
          refine c.mono c' (by omega) (by omega) (Nat.mul_le_mul_right _ (Nat.mul_le_mul_right _ ?_)); omega
        rw [decide_eq_false h, decide_eq_false (show ¬ n + 1 < 0 by omega)]; simp; omega

/-- A share and what is left of the whole are near 1 together. -/
theorem ShP.rest {n d : Int} {x y : Nat} (hn : 0 ≤ n) (hnd : n ≤ d) (hd : 0 < d) (hx : ShP n d x) (hy : ShP (d - n) d y) (e1 : exB n = true) (e2 : exB d = true) (e3 : exB (d - n) = true) :
    ∃ s, floatBits .add .f64 x y = some s ∧ s < 18446744073709551616 ∧ wiB s 4607182418800017408 4517329193108106637 = true := by
  rcases hx.cases e1 e2 with ⟨a, b, c⟩ | ⟨a, b, c⟩ | ⟨a, r, b, c⟩
  · omega
  · omega
  rcases hy.cases e3 e2 with ⟨a', b', c'⟩ | ⟨a', b', c'⟩ | ⟨a', r', b', c'⟩
  · omega
  · omega
  rw [decide_eq_false (show ¬ n < 0 by omega), decide_eq_false (show ¬ d < 0 by omega)] at b
  rw [decide_eq_false (show ¬ d - n < 0 by omega), decide_eq_false (show ¬ d < 0 by omega)] at b'
  have hone := IsRd.exact (r := oneW) (by decide)
  rw [vl_one] at hone
  have hU : 0 < 2 ^ kE := Nat.two_pow_pos _
  have r1 : r ≤ oneW := c.mono hone (by omega) (by decide) (by rw [Nat.mul_one, Nat.mul_comm (2 ^ kE)]; exact Nat.mul_le_mul_right _ (by omega))
  have r2 : r' ≤ oneW := c'.mono hone (by omega) (by decide) (by rw [Nat.mul_one, Nat.mul_comm (2 ^ kE)]; exact Nat.mul_le_mul_right _ (by omega))
  obtain ⟨p1, p2⟩ := near_rd c r1
  obtain ⟨p3, p4⟩ := near_rd c' r2
  have hsum : n.natAbs * 2 ^ kE + (d - n).natAbs * 2 ^ kE = d.natAbs * 2 ^ kE := by rw [← Nat.add_mul]; congr 1; omega
  have hD : 0 < d.natAbs := by omega
  -- the sum lies within 2 ^ kG of 1
  have t1 : 2 ^ kE ≤ vl r + vl r' + 2 ^ kG := by
    refine Nat.le_of_mul_le_mul_left (c := 2 * d.natAbs) ?_ (by omega)
    have e1 : 2 * d.natAbs * 2 ^ kE = 2 * (d.natAbs * 2 ^ kE) := Nat.mul_assoc _ _ _
    have e2 : 2 * d.natAbs * (vl r + vl r' + 2 ^ kG) = d.natAbs * (2 * vl r + 2 ^ kG) + d.natAbs * (2 * vl r' + 2 ^ kG) := aux1 _ _ _ _
    omega
  have t2 : vl r + vl r' ≤ 2 ^ kE + 2 ^ kG := by
    refine Nat.le_of_mul_le_mul_left (c := 2 * d.natAbs) ?_ (by omega)
    have e1 : 2 * d.natAbs * (vl r + vl r') = d.natAbs * (2 * vl r) + d.natAbs * (2 * vl r') := aux2 _ _ _
    have e2 : 2 * d.natAbs * (2 ^ kE + 2 ^ kG) = 2 * (d.natAbs * 2 ^ kE) + 2 * (d.natAbs * 2 ^ kG) := by
      rw [Nat.mul_add, Nat.mul_assoc, Nat.mul_assoc]
    omega
  have hxr : rg x = r := by rw [b]; exact rg_wo c.le
  have hyr : rg y = r' := by rw [b']; exact rg_wo c'.le
  have hxk : ky x = vl r := by unfold ky; rw [hxr, b, sg_wo c.le]; rfl
  have hyk : ky y = vl r' := by unfold ky; rw [hyr, b', sg_wo c'.le]; rfl
  have o1 : oneW < infR := by decide
  obtain ⟨s, es, hs⟩ := add_spec (x := x) (y := y) (by omega) (by omega)
  rw [hxk, hyk] at es hs
  have hab : ((vl r : Int) + vl r').natAbs = vl r + vl r' := by omega
  rw [hab] at hs
  have sneg : (if (vl r : Int) + vl r' = 0 then sg x && sg y else decide ((vl r : Int) + vl r' < 0)) = false := by
    split
    · rw [b, sg_wo c.le]; rfl
    · exact decide_eq_false (by omega)
  rw [sneg] at es
  -- the rung of the sum
  have v1 : vl (oneW + 1) = 2 ^ kE + 2 ^ kG := by rw [vl_gap, vl_one, one_gap]
  have v2 : vl (oneW - 2) + 2 ^ kG = 2 ^ kE := by
    have g1 := vl_gap (oneW - 1)
    have g2 := vl_gap (oneW - 2)
    rw [show oneW - 2 + 1 = oneW - 1 from rfl] at g2
    rw [show oneW - 1 + 1 = oneW from rfl, vl_one] at g1
    have h1 : (oneW - 1) / 4503599627370496 - 1 = kG - 1 := by decide
    have h2 : (oneW - 2) / 4503599627370496 - 1 = kG - 1 := by decide
    rw [h1] at g1
    rw [h2] at g2
    have h3 : 2 ^ kG = 2 * 2 ^ (kG - 1) := by
      obtain ⟨k, hk⟩ : ∃ k, kG = k + 1 := ⟨1021, rfl⟩
      rw [hk, Nat.add_sub_cancel, Nat.pow_succ, Nat.mul_comm]
    omega
  have s1 : s ≤ oneW + 1 := hs.mono (IsRd.exact (r := oneW + 1) (by decide)) (by decide) (by decide) (by rw [v1]; omega)
  have s2 : oneW - 2 ≤ s := (IsRd.exact (r := oneW - 2) (by decide)).mono hs (by decide) (by decide) (by omega)
  have w1 : vl s ≤ 2 ^ kE + 2 ^ kG := by
    rw [← v1]; rcases Nat.lt_or_eq_of_le s1 with h | h
    · exact Nat.le_of_lt (vl_lt h)
    · rw [h]; exact Nat.le_refl _
  have w2 : 2 ^ kE ≤ vl s + 2 ^ kG := by
    rcases Nat.lt_or_eq_of_le s2 with h | h
    · have := vl_lt h; omega
    · rw [← h]; omega
  have sl : s < infR := Nat.lt_of_le_of_lt s1 (by decide)
  refine ⟨wo false s, es, wo_lt hs.le, ?_⟩
  have ho : isN 4607182418800017408 = false := by decide
  unfold wiB
  rw [isN_wo hs.le, ho, show tolB 4517329193108106637 = true from by decide]
  simp only [Bool.not_false, Bool.and_self, Bool.true_and, Bool.or_eq_true, decide_eq_true_iff]
  right
  have rs : rg (wo false s) = s := rg_wo hs.le
  obtain ⟨q, eq, hq⟩ := sub_spec (x := wo false s) (y := 4607182418800017408) (by rw [rs]; exact sl) (by decide)
  have ks : ky (wo false s) = vl s := by unfold ky; rw [rs, sg_wo hs.le]; rfl
  have ko : ky 4607182418800017408 = ((2 ^ kE : Nat) : Int) := by
    unfold ky
    rw [show sg 4607182418800017408 = false from by decide, show rg 4607182418800017408 = oneW from by decide, vl_one, if_neg (by decide)]
  rw [ks, ko] at eq hq
  have ed : dist (wo false s) 4607182418800017408 = q := by
    unfold dist
    rw [show double.sub (wo false s) 4607182418800017408 = _ from eq, Option.getD_some, rg_wo hq.le]
  rw [ed]
  have vg : vl 4372995238176751616 = 2 ^ kG := by
    obtain ⟨k, hk⟩ : ∃ k, k = kG - 52 := ⟨_, rfl⟩
    have h := vl_at (L := k) (k := 4503599627370496) (Or.inr (Nat.le_refl _)) (by decide)
    rw [show k * 4503599627370496 + 4503599627370496 = 4372995238176751616 from by rw [hk]; decide] at h
    rw [h, show kG = 52 + k from by rw [hk]; decide, Nat.pow_add]
  have hqg : q ≤ 4372995238176751616 := by
    refine hq.mono (IsRd.exact (r := 4372995238176751616) (by decide)) (by decide) (by decide) ?_
    rw [vg, Nat.mul_one, Nat.mul_one]
    omega
  exact Nat.le_trans hqg (by decide)

end Go.Proofs.Ytnfmcdhllplgmaa
