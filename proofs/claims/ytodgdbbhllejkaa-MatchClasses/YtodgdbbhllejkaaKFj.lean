/- 'nearest' finds the nearest rung, also of a quotient of which only the first digits and 'something is left over' are known; whole numbers that are floats; quotients. -/
import Derived.Test.YtodgdbbhllejkaaKFq
namespace Go.Proofs.Ytodgdbbhllejkaa
open Ieee

theorem cut_spec {n d : Nat} :
    (2 * n ≤ (2 * Toward.even.cut false n d + 1) * 2 ^ d ∧ (2 * n = (2 * Toward.even.cut false n d + 1) * 2 ^ d → Toward.even.cut false n d % 2 = 0)) ∧
    (2 * Toward.even.cut false n d * 2 ^ d ≤ 2 * n + 2 ^ d ∧ (2 * Toward.even.cut false n d * 2 ^ d = 2 * n + 2 ^ d → Toward.even.cut false n d % 2 = 0)) ∧
    (n % 2 = 1 → 2 ≤ d → 2 * (n + 1) ≤ (2 * Toward.even.cut false n d + 1) * 2 ^ d ∧ 2 * Toward.even.cut false n d * 2 ^ d ≤ 2 * (n - 1) + 2 ^ d) := by
  have hlog : n < 2 ^ (n.log2 + 1) := Nat.lt_log2_self
  by_cases hd : d ≤ n.log2 + 2
  · have e : Toward.even.cut false n d = n / 2 ^ d + (decide (2 ^ d < 2 * (n % 2 ^ d)) || ((2 ^ d == 2 * (n % 2 ^ d)) && (n / 2 ^ d % 2 == 1))).toNat := by
      unfold Toward.cut
      rw [Nat.min_eq_left hd, Nat.one_shiftLeft]
    rw [e]
    have hdiv := Nat.div_add_mod n (2 ^ d)
    have hmod : n % 2 ^ d < 2 ^ d := Nat.mod_lt _ (Nat.two_pow_pos d)
    have four : 2 ≤ d → ∃ q, 2 ^ d = 4 * q := by
      intro h; obtain ⟨t, rfl⟩ : ∃ t, d = 2 + t := ⟨d - 2, by omega⟩
      exact ⟨2 ^ t, by rw [Nat.pow_add]⟩
    generalize n / 2 ^ d = l at *
    generalize n % 2 ^ d = r at *
    generalize 2 ^ d = g at *
    have hX : g * l = l * g := Nat.mul_comm _ _
    rw [hX] at hdiv
    have x1 : (2 * l + 1) * g = 2 * (l * g) + g := by rw [Nat.add_mul, Nat.one_mul, Nat.mul_assoc]
    have x2 : 2 * l * g = 2 * (l * g) := Nat.mul_assoc _ _ _
    have x3 : (2 * (l + 1) + 1) * g = 2 * (l * g) + 3 * g := by rw [Nat.add_mul, Nat.one_mul, Nat.mul_assoc, Nat.add_mul l]; omega
    have x4 : 2 * (l + 1) * g = 2 * (l * g) + 2 * g := by rw [Nat.mul_assoc, Nat.add_mul l]; omega
    have odd : 2 ≤ d → ∃ y, l * g = 4 * y := by
      intro h; obtain ⟨q, hq⟩ := four h
      exact ⟨l * q, by rw [hq, Nat.mul_left_comm]⟩
    generalize l * g = X at *
    by_cases c1 : g < 2 * r
    · rw [decide_eq_true c1, Bool.true_or, Bool.toNat_true, x3, x4]
      refine ⟨⟨by omega, by omega⟩, ⟨by omega, by omega⟩, fun h1 h2 => ?_⟩
      obtain ⟨q, hq⟩ := four h2
      obtain ⟨y, hy⟩ := odd h2
      exact ⟨by omega, by omega⟩
    · rw [decide_eq_false c1, Bool.false_or]
      by_cases c2 : g = 2 * r
      · by_cases c3 : l % 2 = 1
        · rw [show (g == 2 * r) = true from beq_iff_eq.2 c2, show (l % 2 == 1) = true from beq_iff_eq.2 c3, Bool.and_self, Bool.toNat_true, x3, x4]
          refine ⟨⟨by omega, by omega⟩, ⟨by omega, by omega⟩, fun h1 h2 => ?_⟩
          obtain ⟨q, hq⟩ := four h2
          obtain ⟨y, hy⟩ := odd h2
          omega
        · rw [show (l % 2 == 1) = false from beq_eq_false_iff_ne.2 c3, Bool.and_false, Bool.toNat_false]
          simp only [Nat.add_zero, x1, x2]
          refine ⟨⟨by omega, by omega⟩, ⟨by omega, by omega⟩, fun h1 h2 => ?_⟩
          obtain ⟨q, hq⟩ := four h2
          obtain ⟨y, hy⟩ := odd h2
          omega
      · rw [show (g == 2 * r) = false from beq_eq_false_iff_ne.2 c2, Bool.false_and, Bool.toNat_false]
        simp only [Nat.add_zero, x1, x2]
        refine ⟨⟨by omega, by omega⟩, ⟨by omega, by omega⟩, fun h1 h2 => ?_⟩
        obtain ⟨q, hq⟩ := four h2
        obtain ⟨y, hy⟩ := odd h2
        exact ⟨by omega, by omega⟩
  · have hp : 2 ^ (n.log2 + 2) = 2 * 2 ^ (n.log2 + 1) := by rw [show n.log2 + 2 = (n.log2 + 1) + 1 from rfl, Nat.pow_succ, Nat.mul_comm]
    have hle : 2 ^ (n.log2 + 2) ≤ 2 ^ d := Nat.pow_le_pow_right (by decide) (by omega)
    have e : Toward.even.cut false n d = 0 := by
      unfold Toward.cut
      rw [Nat.min_eq_right (by omega), Nat.one_shiftLeft]
      dsimp only
      rw [Nat.div_eq_of_lt (by omega), Nat.mod_eq_of_lt (by omega), decide_eq_false (by omega), show (2 ^ (n.log2 + 2) == 2 * n) = false from beq_eq_false_iff_ne.2 (by omega)]
      rfl
    rw [e]
    generalize 2 ^ (n.log2 + 1) = u at *
    generalize 2 ^ (n.log2 + 2) = v at *
    generalize 2 ^ d = g at *
    refine ⟨⟨by omega, by omega⟩, ⟨by omega, by omega⟩, fun h1 h2 => ⟨by omega, by omega⟩⟩

theorem cut_zero (n : Nat) : Toward.even.cut false n 0 = n := by
  unfold Toward.cut
  rw [Nat.zero_min, show (1 : Nat) <<< 0 = 1 from rfl]
  dsimp only
  rw [Nat.div_one, Nat.mod_one]
  rfl

/-- 'nearest' finds the nearest rung. -/
theorem nr_spec {Q : Nat} {place : Int} {P N a b : Nat} (hQ : Q ≠ 0) (hN : 0 < N)
    (hP : P = Q * N ∨ (Q % 2 = 1 ∧ (Q - 1) * N < P ∧ P < (Q + 1) * N ∧ 18014398509481984 ≤ Q))
    (hab : (a : Int) - b = place + 1074) : IsRd (nr Q place) (P * 2 ^ a) (N * 2 ^ b) := by
  unfold nr
  rw [if_neg hQ]
  have hl1 : Q < 2 ^ (Q.log2 + 1) := Nat.lt_log2_self
  have hl2 : 2 ^ Q.log2 ≤ Q := Nat.log2_self_le hQ
  obtain ⟨last, hlast⟩ : ∃ last : Int, last = max (place + Q.log2 - 52) (-1074) := ⟨_, rfl⟩
  rw [← hlast]
  obtain ⟨L, hL⟩ : ∃ L : Nat, (L : Int) = last + 1074 := ⟨(last + 1074).toNat, by omega⟩
  have eL : (last + 1074).toNat = L := by omega
  rw [eL]
  have rest : ∀ up drop : Nat, (up : Int) - drop = place - last → (up = 0 ∨ drop = 0) → 
      IsRd (min (L * 4503599627370496 + Toward.even.cut false (Q * 2 ^ up) drop) infR) (P * 2 ^ a) (N * 2 ^ b) := by
    intro up drop hud h0
    have hu := Nat.two_pow_pos up
    have hn : Q * 2 ^ up ≠ 0 := Nat.pos_iff_ne_zero.1 (Nat.mul_pos (Nat.pos_of_ne_zero hQ) hu)
    obtain ⟨⟨cA, cA'⟩, ⟨cB, cB'⟩, cS⟩ := cut_spec (n := Q * 2 ^ up) (d := drop)
    have hg := Nat.two_pow_pos drop
    -- bounds of the digits
    have b1 : Q * 2 ^ up < 9007199254740992 * 2 ^ drop := by
      have : Q * 2 ^ up < 2 ^ (Q.log2 + 1) * 2 ^ up := (Nat.mul_lt_mul_right hu).2 hl1
      rw [← Nat.pow_add] at this
      have h2 : 2 ^ (Q.log2 + 1 + up) ≤ 2 ^ (53 + drop) := Nat.pow_le_pow_right (by decide) (by omega)
      rw [Nat.pow_add 2 53] at h2
      exact Nat.lt_of_lt_of_le this h2
    have b2 : L = 0 ∨ 4503599627370496 * 2 ^ drop ≤ Q * 2 ^ up := by
      by_cases e : L = 0
      · exact Or.inl e
      · right
        have : 2 ^ Q.log2 * 2 ^ up ≤ Q * 2 ^ up := Nat.mul_le_mul_right _ hl2
        rw [← Nat.pow_add] at this
        have h2 : 2 ^ (52 + drop) ≤ 2 ^ (Q.log2 + up) := Nat.pow_le_pow_right (by decide) (by omega)
        rw [Nat.pow_add 2 52] at h2
        exact Nat.le_trans h2 this
    have fin : ∀ P', P' = P * 2 ^ up → IsRd (min (L * 4503599627370496 + Toward.even.cut false (Q * 2 ^ up) drop) infR) (P' * 2 ^ L) (2 ^ drop * N) →
        IsRd (min (L * 4503599627370496 + Toward.even.cut false (Q * 2 ^ up) drop) infR) (P * 2 ^ a) (N * 2 ^ b) := by
      intro P' eP' h
      refine h.congr (Nat.mul_pos hg hN) (Nat.mul_pos hN (Nat.two_pow_pos b)) ?_
      rw [eP']
      have e1 : P * 2 ^ up * 2 ^ L * (N * 2 ^ b) = P * N * 2 ^ (up + L + b) := by rw [Nat.pow_add, Nat.pow_add]; ac_rfl
      have e2 : P * 2 ^ a * (2 ^ drop * N) = P * N * 2 ^ (a + drop) := by rw [Nat.pow_add]; ac_rfl
      rw [e1, e2, show up + L + b = a + drop from by omega]
    refine fin _ rfl ?_
    generalize hk : Toward.even.cut false (Q * 2 ^ up) drop = k at *
    have hG : 0 < 2 ^ drop * N := Nat.mul_pos hg hN
    rcases hP with rfl | ⟨so, s1, s2, s3⟩
    · -- exact
      have e1 : Q * N * 2 ^ up = Q * 2 ^ up * N := by ac_rfl
      rw [e1]
      clear e1 cS hk
      generalize Q * 2 ^ up = n at *
      refine rd_of_kept hG ?_ ?_ ?_ ?_ ?_ ?_
      · rw [← Nat.mul_assoc, ← Nat.mul_assoc]; exact Nat.mul_le_mul_right _ cA
      · intro h
        rw [← Nat.mul_assoc, ← Nat.mul_assoc] at h
        exact cA' (Nat.eq_of_mul_eq_mul_right hN h)
      · rw [← Nat.mul_assoc, ← Nat.mul_assoc, ← Nat.add_mul]; exact Nat.mul_le_mul_right _ cB
      · intro h
        rw [← Nat.mul_assoc, ← Nat.mul_assoc, ← Nat.add_mul] at h
        exact cB' (Nat.eq_of_mul_eq_mul_right hN h)
      · rw [← Nat.mul_assoc]; exact (Nat.mul_lt_mul_right hN).2 b1
      · rcases b2 with h | h
        · exact Or.inl h
        · right; rw [← Nat.mul_assoc]; exact Nat.mul_le_mul_right _ h
    · -- something is left over
      have lg : 54 ≤ Q.log2 := by
        refine Nat.le_of_not_lt fun lt => ?_
        have : 2 ^ (Q.log2 + 1) ≤ 2 ^ 54 := Nat.pow_le_pow_right (by decide) (by omega)
        omega
      have hd2 : 2 ≤ drop := by omega
      have hup : up = 0 := by omega
      subst hup
      rw [Nat.pow_zero, Nat.mul_one] at *
      obtain ⟨t1, t2⟩ := cS so hd2
      obtain ⟨q, hq⟩ : ∃ q, 2 ^ drop = 2 * q := ⟨2 ^ (drop - 1), by rw [← Nat.pow_succ']; congr 1; omega⟩
      have u1 : 2 * ((Q + 1) * N) ≤ (2 * k + 1) * (2 ^ drop * N) := by
        rw [← Nat.mul_assoc, ← Nat.mul_assoc]; exact Nat.mul_le_mul_right _ t1
      have u2 : 2 * k * (2 ^ drop * N) ≤ 2 * ((Q - 1) * N) + 2 ^ drop * N := by
        rw [← Nat.mul_assoc, ← Nat.mul_assoc, ← Nat.add_mul]; exact Nat.mul_le_mul_right _ t2
      have u3 : (Q + 1) * N ≤ 9007199254740992 * (2 ^ drop * N) := by
        rw [← Nat.mul_assoc]; exact Nat.mul_le_mul_right _ b1
      refine rd_of_kept hG (by omega) (by omega) (by omega) (by omega) (by omega) ?_
      rcases b2 with h | h
      · exact Or.inl h
      · right
        have : 4503599627370496 * 2 ^ drop ≤ Q - 1 := by rw [hq] at h ⊢; omega
        have u4 : 4503599627370496 * (2 ^ drop * N) ≤ (Q - 1) * N := by rw [← Nat.mul_assoc]; exact Nat.mul_le_mul_right _ this
        omega
  rw [Nat.shiftLeft_eq]
  exact rest _ _ (by omega) (by omega)

/-- Whole numbers that have a rung. -/
theorem rep (n e : Nat) (h : n ≤ 9007199254740992) : ∃ r, vl r = n * 2 ^ e := by
  induction e with
  | zero =>
    refine ⟨n, ?_⟩
    have := vl_at (L := 0) (k := n) (Or.inl rfl) h
    simpa using this
  | succ e ih =>
    obtain ⟨r, hr⟩ := ih
    by_cases c : r < 4503599627370496
    · refine ⟨2 * r, ?_⟩
      have h1 := vl_at (L := 0) (k := 2 * r) (Or.inl rfl) (by omega)
      have h2 := vl_at (L := 0) (k := r) (Or.inl rfl) (by omega)
      rw [Nat.zero_mul, Nat.zero_add, Nat.pow_zero, Nat.mul_one] at h1 h2
      rw [h1, Nat.pow_succ, ← Nat.mul_assoc, ← hr, h2, Nat.mul_comm]
    · refine ⟨r + 4503599627370496, ?_⟩
      rw [Nat.pow_succ, ← Nat.mul_assoc, ← hr]
      unfold vl
      rw [if_neg c, if_neg (by omega), Nat.add_mod_right, Nat.add_div_right _ (by decide)]
      obtain ⟨q, hq⟩ : ∃ q, r / 4503599627370496 = q + 1 := ⟨r / 4503599627370496 - 1, by omega⟩
      rw [hq, Nat.mul_assoc]
      show _ * 2 ^ (q + 1) = _ * (2 ^ q * 2)
      rw [Nat.pow_succ]

/-- How far the unit lies above the least place. -/
def kE : Nat := 1074
def kT : Nat := 2098
theorem vl_infR : vl infR = 2 ^ kT := by
  have e1 : infR % 4503599627370496 = 0 := by decide
  have e2 : infR / 4503599627370496 - 1 = 2046 := by decide
  unfold vl
  obtain ⟨k, hk⟩ : ∃ k, k = infR / 4503599627370496 - 1 := ⟨_, rfl⟩
  rw [if_neg (by decide), e1, ← hk, Nat.add_zero, show kT = 52 + k from by rw [hk, e2]; rfl, Nat.pow_add]

theorem rung_lt {r m : Nat} (h : vl r < 2 ^ m) (hm : m ≤ kT) : r < infR := by
  refine Nat.lt_of_not_le fun le => ?_
  have h1 : vl infR ≤ vl r := by
    rcases Nat.lt_or_eq_of_le le with x | x
    · exact Nat.le_of_lt (vl_lt x)
    · rw [x]; exact Nat.le_refl _
  rw [vl_infR] at h1
  have : 2 ^ m ≤ 2 ^ kT := Nat.pow_le_pow_right (by decide) hm
  omega

/-- A whole number as a float. -/
def fi (n : Int) : Nat := floatOfInt .f64 n
theorem fi_wo (n : Int) : fi n = wo (decide (n < 0)) (nr n.natAbs 0) := by
  show double.write (.number (n < 0) n.natAbs 0) = _
  rw [write_num]
theorem fi_spec {n : Int} (h : n.natAbs ≤ 9007199254740992) : rg (fi n) < infR ∧ vl (rg (fi n)) = n.natAbs * 2 ^ kE ∧ sg (fi n) = decide (n < 0) := by
  rw [fi_wo, rg_wo (nr_le _ _), sg_wo (nr_le _ _)]
  by_cases h0 : n.natAbs = 0
  · rw [h0]
    refine ⟨by decide, ?_, rfl⟩
    rw [Nat.zero_mul]; rfl
  · obtain ⟨r, hr⟩ := rep n.natAbs kE h
    have lt : r < infR := by
      refine rung_lt (m := 54 + kE) ?_ (by decide)
      rw [hr, Nat.pow_add]
      exact (Nat.mul_lt_mul_right (Nat.two_pow_pos _)).2 (Nat.lt_of_le_of_lt h (by decide))
    have h1 := nr_spec (Q := n.natAbs) (place := 0) (P := n.natAbs) (N := 1) (a := kE) (b := 0) h0 (by decide) (Or.inl (Nat.mul_one _).symm) (by decide)
    have h2 := IsRd.exact (r := r) (Nat.le_of_lt lt)
    have : nr n.natAbs 0 = r := h1.uniq h2 (by decide) (by decide) (by rw [hr])
    rw [this]
    exact ⟨lt, hr, rfl⟩

/-- A quotient. -/
theorem div_spec {x y : Nat} (hx : rg x < infR) (hy : rg y < infR) (hy0 : rg y ≠ 0) :
    ∃ r, floatBits .quo .f64 x y = some (wo (sg x ^^ sg y) r) ∧ IsRd r (vl (rg x) * 2 ^ kE) (vl (rg y)) := by
  have hn : mg y ≠ 0 := by unfold mg; split <;> omega
  have e : floatBits .quo .f64 x y = some (wo (sg x ^^ sg y) (nr (2 * ((mg x <<< (54 + (mg y).log2 - (mg x).log2)) / mg y) + ((mg x <<< (54 + (mg y).log2 - (mg x).log2)) % mg y != 0).toNat) ((-1074 + (pl x : Int)) - (-1074 + (pl y : Int)) - ((54 + (mg y).log2 - (mg x).log2 : Nat) : Int) - 1))) := by
    show double.div x y = _
    unfold Format.div
    rw [read_num hx, read_num hy]
    unfold Datum.quotient
    dsimp only
    rw [if_neg hn]
    show some (double.write _) = _
    rw [write_num]
    rfl
  refine ⟨_, e, ?_⟩
  clear e
  rw [vl_mg, vl_mg, Nat.shiftLeft_eq]
  have hnp : 0 < mg y := Nat.pos_of_ne_zero hn
  by_cases hm : mg x = 0
  · rw [hm, Nat.zero_mul, Nat.zero_div, Nat.zero_mod]
    show IsRd (nr 0 _) _ _
    unfold nr
    rw [if_pos rfl, Nat.zero_mul, Nat.zero_mul]
    refine ⟨Nat.zero_le _, Or.inl rfl, Or.inr (Or.inl ?_)⟩
    exact Nat.mul_pos (Nat.mul_pos hnp (Nat.two_pow_pos _)) (by decide)
  · generalize hmore : 54 + (mg y).log2 - (mg x).log2 = more
    have hd : 9007199254740992 * mg y ≤ mg x * 2 ^ more := by
      have l1 : 2 ^ (mg x).log2 ≤ mg x := Nat.log2_self_le hm
      have l2 : mg y < 2 ^ ((mg y).log2 + 1) := Nat.lt_log2_self
      have l3 : 2 ^ (mg x).log2 * 2 ^ more ≤ mg x * 2 ^ more := Nat.mul_le_mul_right _ l1
      rw [← Nat.pow_add] at l3
      have l4 : 2 ^ (53 + ((mg y).log2 + 1)) ≤ 2 ^ ((mg x).log2 + more) := Nat.pow_le_pow_right (by decide) (by omega)
      rw [Nat.pow_add 2 53] at l4
      have l5 : 9007199254740992 * mg y ≤ 2 ^ 53 * 2 ^ ((mg y).log2 + 1) := Nat.mul_le_mul (by decide) (Nat.le_of_lt l2)
      exact Nat.le_trans l5 (Nat.le_trans l4 l3)
    generalize hD : mg x * 2 ^ more = D at *
    have hw : 9007199254740992 ≤ D / mg y := (Nat.le_div_iff_mul_le hnp).2 hd
    have hdm := Nat.div_add_mod D (mg y)
    have hmd := Nat.mod_lt D hnp
    have h1 := nr_spec (Q := 2 * (D / mg y) + (D % mg y != 0).toNat) (place := (-1074 + (pl x : Int)) - (-1074 + (pl y : Int)) - ((more : Nat) : Int) - 1) (P := 2 * D) (N := mg y) (a := pl x + kE) (b := pl y + more + 1) (by omega) hnp ?_ (by have hk : kE = 1074 := rfl; omega)
    · refine h1.congr (Nat.mul_pos hnp (Nat.two_pow_pos _)) (Nat.mul_pos hnp (Nat.two_pow_pos _)) ?_
      rw [← hD, Nat.pow_add, Nat.pow_add 2 (pl y + more), Nat.pow_add 2 (pl y), Nat.pow_one]
      generalize 2 ^ kE = U
      generalize 2 ^ pl x = V
      generalize 2 ^ pl y = V2
      generalize 2 ^ more = V3
      ac_rfl
    · by_cases c : D % mg y = 0
      · left
        rw [show (D % mg y != 0) = false from by rw [c]; rfl, Bool.toNat_false, Nat.add_zero]
        rw [c, Nat.add_zero] at hdm
        rw [Nat.mul_assoc, Nat.mul_comm (D / mg y), hdm]
      · right
        rw [show (D % mg y != 0) = true from bne_iff_ne.2 c, Bool.toNat_true]
        have e1 : (2 * (D / mg y) + 1 - 1) * mg y = 2 * (mg y * (D / mg y)) := by rw [Nat.add_sub_cancel, Nat.mul_assoc, Nat.mul_comm (D / mg y)]
        have e2 : (2 * (D / mg y) + 1 + 1) * mg y = 2 * (mg y * (D / mg y)) + 2 * mg y := by rw [show 2 * (D / mg y) + 1 + 1 = 2 * (D / mg y) + 2 from rfl, Nat.add_mul, Nat.mul_assoc, Nat.mul_comm (D / mg y)]
        rw [e1, e2]
        exact ⟨by omega, by omega, by omega, by omega⟩

end Go.Proofs.Ytodgdbbhllejkaa
