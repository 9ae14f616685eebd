/- Floats of 64 bits: a word's sign and rung, NaNs, and that the order of two words is that of their signed rungs. -/
import Derived.Laws.FloatArith
namespace Go.Proofs.Ytodgdbbhllejkaa
open Ieee

/-- A word's rung. -/
def rg (x : Nat) : Nat := x % 9223372036854775808
/-- Has a word the sign? -/
def sg (x : Nat) : Bool := x / 9223372036854775808 % 2 == 1
/-- Infinity's rung. -/
def infR : Nat := 9218868437227405312
/-- Is a word a NaN? -/
def isN (x : Nat) : Bool := decide (infR < rg x)
/-- A word's signed rung. -/
def sk (x : Nat) : Int := if sg x then -(rg x : Int) else (rg x : Int)

/-- What a rung stands for, in units of the least number. -/
def vl (r : Nat) : Nat := if r < 4503599627370496 then r else (4503599627370496 + r % 4503599627370496) * 2 ^ (r / 4503599627370496 - 1)

theorem vl_succ (r : Nat) : vl r < vl (r + 1) := by
  unfold vl
  by_cases h1 : r < 4503599627370496
  · rw [if_pos h1]
    by_cases h2 : r + 1 < 4503599627370496
    · rw [if_pos h2]; omega
    · rw [if_neg h2]
      have e : r = 4503599627370495 := by omega
      subst e
      decide
  · rw [if_neg h1, if_neg (by omega)]
    obtain ⟨q, hq⟩ : ∃ q, r / 4503599627370496 = q + 1 := ⟨r / 4503599627370496 - 1, by omega⟩
    by_cases h3 : r % 4503599627370496 + 1 < 4503599627370496
    · have e1 : (r + 1) / 4503599627370496 = q + 1 := by omega
      have e2 : (r + 1) % 4503599627370496 = r % 4503599627370496 + 1 := by omega
      rw [e1, e2, hq]
      exact Nat.mul_lt_mul_of_pos_right (by omega) (Nat.two_pow_pos _)
    · have e1 : (r + 1) / 4503599627370496 = q + 2 := by omega
      have e2 : (r + 1) % 4503599627370496 = 0 := by omega
      rw [e1, e2, hq]
      have : (2 : Nat) ^ (q + 2 - 1) = 2 * 2 ^ (q + 1 - 1) := by
        show 2 ^ (q + 1) = 2 * 2 ^ q
        rw [Nat.pow_succ]; omega
      rw [this, Nat.add_zero, ← Nat.mul_assoc]
      exact Nat.mul_lt_mul_of_pos_right (by omega) (Nat.two_pow_pos _)

theorem vl_lt {r s : Nat} (h : r < s) : vl r < vl s := by
  induction s with
  | zero => omega
  | succ n ih =>
    by_cases e : r = n
    · subst e; exact vl_succ r
    · exact Nat.lt_trans (ih (by omega)) (vl_succ n)

theorem vl_zero : vl 0 = 0 := rfl

/-- A word's value, in units of the least number (an infinity's: beyond all). -/
def ky (x : Nat) : Int := if sg x then -(vl (rg x) : Int) else (vl (rg x) : Int)

theorem ky_sk (x y : Nat) : compare (ky x) (ky y) = compare (sk x) (sk y) := by
  have hm : ∀ a b : Nat, a < b → vl a < vl b := fun a b h => vl_lt h
  have h0 : vl 0 = 0 := rfl
  have t := Nat.lt_trichotomy (rg x) (rg y)
  have px : rg x = 0 ∨ 0 < vl (rg x) := by
    by_cases e : rg x = 0
    · exact Or.inl e
    · exact Or.inr (by have := hm 0 (rg x) (by omega); omega)
  have py : rg y = 0 ∨ 0 < vl (rg y) := by
    by_cases e : rg y = 0
    · exact Or.inl e
    · exact Or.inr (by have := hm 0 (rg y) (by omega); omega)
  have hx : rg x = 0 → vl (rg x) = 0 := fun e => by rw [e]; rfl
  have hy : rg y = 0 → vl (rg y) = 0 := fun e => by rw [e]; rfl
  have key : ∀ (a b c d : Int), (a < b ↔ c < d) → (a = b ↔ c = d) → compare a b = compare c d := by
    intro a b c d h1 h2
    show compareOfLessAndEq a b = compareOfLessAndEq c d
    unfold compareOfLessAndEq
    simp only [h1, h2]
  have m1 : rg x < rg y → vl (rg x) < vl (rg y) := hm _ _
  have m2 : rg y < rg x → vl (rg y) < vl (rg x) := hm _ _
  have m3 : rg x = rg y → vl (rg x) = vl (rg y) := fun e => by rw [e]
  refine key _ _ _ _ ?_ ?_ <;> unfold ky sk <;> cases sg x <;> cases sg y <;> simp only [if_true, if_false, Bool.false_eq_true] <;> omega

/-- A word's digits and how far its last digit lies above the least place. -/
def mg (x : Nat) : Nat := if rg x < 4503599627370496 then rg x else 4503599627370496 + rg x % 4503599627370496
def pl (x : Nat) : Nat := if rg x < 4503599627370496 then 0 else rg x / 4503599627370496 - 1

theorem vl_mg (x : Nat) : vl (rg x) = mg x * 2 ^ pl x := by
  unfold vl mg pl
  by_cases h : rg x < 4503599627370496
  · simp only [if_pos h]; omega
  · simp only [if_neg h]

theorem read_num {x : Nat} (h : rg x < infR) : double.read x = .number (sg x) (mg x) (-1074 + (pl x : Int)) := by
  unfold infR rg at h
  unfold Format.read mg pl sg rg
  have e1 : double.signWeight = 9223372036854775808 := by decide
  have e2 : double.binade = 4503599627370496 := by decide
  have e3 : double.infRung = 9218868437227405312 := by decide
  have e4 : double.leastPlace = -1074 := by decide
  simp only [e1, e2, e3, e4]
  by_cases h1 : x % 9223372036854775808 < 4503599627370496
  · simp only [if_pos h1]; rfl
  · simp only [if_neg h1, if_pos h]
theorem read_inf {x : Nat} (h : rg x = infR) : double.read x = .infinity (sg x) := by
  unfold infR rg at h
  unfold Format.read sg
  have e1 : double.signWeight = 9223372036854775808 := by decide
  have e2 : double.binade = 4503599627370496 := by decide
  have e3 : double.infRung = 9218868437227405312 := by decide
  simp only [e1, e2, e3, h]
  rfl
theorem read_nan {x : Nat} (h : infR < rg x) : double.read x = .nan (sg x) (rg x - infR) := by
  unfold infR rg at h
  unfold Format.read sg rg infR
  have e1 : double.signWeight = 9223372036854775808 := by decide
  have e2 : double.binade = 4503599627370496 := by decide
  have e3 : double.infRung = 9218868437227405312 := by decide
  simp only [e1, e2, e3]
  rw [if_neg (by omega), if_neg (by omega), if_neg (by omega)]

theorem signed_scale (s : Bool) (m a k : Nat) : signed s m a * ((2 ^ k : Nat) : Int) = signed s m (a + k) := by
  unfold signed
  cases s <;> simp [Nat.shiftLeft_eq, Nat.pow_add, Int.mul_assoc, Int.neg_mul]

theorem compare_scale (a b : Int) (k : Nat) : compare (a * ((2 ^ k : Nat) : Int)) (b * ((2 ^ k : Nat) : Int)) = compare a b := by
  have hp : (0 : Int) < ((2 ^ k : Nat) : Int) := by exact_mod_cast Nat.two_pow_pos k
  show compareOfLessAndEq _ _ = compareOfLessAndEq _ _
  unfold compareOfLessAndEq
  have h1 : a * ((2 ^ k : Nat) : Int) < b * ((2 ^ k : Nat) : Int) ↔ a < b := Int.mul_lt_mul_right hp
  have h2 : a * ((2 ^ k : Nat) : Int) = b * ((2 ^ k : Nat) : Int) ↔ a = b := Int.mul_eq_mul_right_iff (by omega)
  simp only [h1, h2]

theorem signed_ky {x : Nat} : signed (sg x) (mg x) (pl x) = ky x := by
  unfold signed ky
  rw [vl_mg, Nat.shiftLeft_eq]

theorem vl_inf_lt {r : Nat} (h : r < infR) : vl r < vl infR := vl_lt h

/-- THE ORDER OF TWO WORDS THAT ARE NO NaNs. -/
theorem order_sk {x y : Nat} (hx : rg x ≤ infR) (hy : rg y ≤ infR) : double.order x y = some (compare (sk x) (sk y)) := by
  rw [← ky_sk]
  unfold Format.order
  rcases Nat.lt_or_eq_of_le hx with hx | hx <;> rcases Nat.lt_or_eq_of_le hy with hy | hy
  · rw [read_num hx, read_num hy]
    unfold Datum.order
    dsimp only
    obtain ⟨k, a, b, e1, e2, ea, eb⟩ : ∃ k a b : Nat, (-1074 + (pl x : Int) - min (-1074 + (pl x : Int)) (-1074 + (pl y : Int))).toNat = a ∧ (-1074 + (pl y : Int) - min (-1074 + (pl x : Int)) (-1074 + (pl y : Int))).toNat = b ∧ a + k = pl x ∧ b + k = pl y :=
      ⟨min (pl x) (pl y), pl x - min (pl x) (pl y), pl y - min (pl x) (pl y), by omega, by omega, by omega, by omega⟩
    rw [e1, e2, ← compare_scale _ _ k, signed_scale, signed_scale, ea, eb, signed_ky, signed_ky]
  · rw [read_num hx, read_inf hy]
    unfold Datum.order ky
    have h1 := vl_inf_lt hx
    rw [hy]
    generalize vl infR = V at h1
    generalize vl (rg x) = U at h1
    cases sg x <;> cases sg y <;> simp only [if_true, if_false, Bool.false_eq_true] <;> refine congrArg some (Eq.symm ?_) <;>
      first | (refine Int.compare_eq_lt.2 ?_; omega) | (refine Int.compare_eq_gt.2 ?_; omega)
  · rw [read_inf hx, read_num hy]
    unfold Datum.order ky
    have h1 := vl_inf_lt hy
    rw [hx]
    generalize vl infR = V at h1
    generalize vl (rg y) = U at h1
    cases sg x <;> cases sg y <;> simp only [if_true, if_false, Bool.false_eq_true] <;> refine congrArg some (Eq.symm ?_) <;>
      first | (refine Int.compare_eq_lt.2 ?_; omega) | (refine Int.compare_eq_gt.2 ?_; omega)
  · rw [read_inf hx, read_inf hy]
    unfold Datum.order ky
    rw [hx, hy]
    have h1 : 0 < vl infR := by have := vl_lt (r := 0) (s := infR) (by decide); omega
    generalize vl infR = V at h1
    cases sg x <;> cases sg y <;> simp only [if_true, if_false, Bool.false_eq_true] <;> refine congrArg some (Eq.symm ?_) <;>
      first | (refine Int.compare_eq_lt.2 ?_; omega) | (refine Int.compare_eq_gt.2 ?_; omega) | (refine Int.compare_eq_eq.2 ?_; omega)

theorem order_nan {x y : Nat} (h : infR < rg x ∨ infR < rg y) : double.order x y = none := by
  unfold Format.order
  rcases h with h | h
  · rw [read_nan h]; rfl
  · rw [read_nan h]
    rcases Nat.lt_trichotomy (rg x) infR with hx | hx | hx
    · rw [read_num hx]; rfl
    · rw [read_inf hx]; rfl
    · rw [read_nan hx]; rfl

/-- A word of a sign and a rung. -/
def wo (neg : Bool) (r : Nat) : Nat := if neg then 9223372036854775808 + r else r
theorem rg_wo {neg : Bool} {r : Nat} (h : r ≤ infR) : rg (wo neg r) = r := by
  unfold rg wo infR at *
  cases neg <;> simp only [if_true, if_false, Bool.false_eq_true] <;> omega
theorem sg_wo {neg : Bool} {r : Nat} (h : r ≤ infR) : sg (wo neg r) = neg := by
  unfold sg wo infR at *
  cases neg <;> simp only [if_true, if_false, Bool.false_eq_true, beq_iff_eq, beq_eq_false_iff_ne, ne_eq] <;> omega
theorem wo_rg {x : Nat} (h : x < 18446744073709551616) : wo (sg x) (rg x) = x := by
  unfold wo sg rg
  by_cases e : x / 9223372036854775808 % 2 = 1
  · rw [if_pos (by simpa using e)]; omega
  · rw [if_neg (by simpa using e)]; omega
theorem wo_lt {neg : Bool} {r : Nat} (h : r ≤ infR) : wo neg r < 18446744073709551616 := by
  unfold wo infR at *
  split <;> omega
theorem sk_wo {neg : Bool} {r : Nat} (h : r ≤ infR) : sk (wo neg r) = if neg then -(r : Int) else r := by
  unfold sk; rw [sg_wo h, rg_wo h]

/-- The rung nearest to 'mag * 2 ^ place'. -/
def nr (mag : Nat) (place : Int) : Nat :=
  if mag = 0 then 0 else
  min (((max (place + mag.log2 - 52) (-1074)) + 1074).toNat * 4503599627370496 + Toward.even.cut false (mag <<< (place - (max (place + mag.log2 - 52) (-1074))).toNat) ((max (place + mag.log2 - 52) (-1074)) - place).toNat) infR

theorem nr_le (mag : Nat) (place : Int) : nr mag place ≤ infR := by
  unfold nr
  split
  · exact Nat.zero_le _
  · exact Nat.min_le_right _ _

theorem cut_even (a b : Bool) (n d : Nat) : Toward.even.cut a n d = Toward.even.cut b n d := rfl

theorem nearest_wo (neg : Bool) (mag : Nat) (place : Int) : double.nearest neg mag place = wo neg (nr mag place) := by
  unfold Format.nearest nr Format.word wo
  have e1 : double.signWeight = 9223372036854775808 := by decide
  have e2 : double.binade = 4503599627370496 := by decide
  have e3 : double.infRung = infR := by decide
  have e4 : double.leastPlace = -1074 := by decide
  have e5 : double.fractionBits = 52 := rfl
  by_cases h : mag = 0
  · simp only [if_pos h, e1]
  · simp only [if_neg h, e1, e2, e3, e4, e5, cut_even neg false]
    rfl

theorem write_inf (neg : Bool) : double.write (.infinity neg) = wo neg infR := by
  cases neg <;> decide
theorem write_num (neg : Bool) (mag : Nat) (place : Int) : double.write (.number neg mag place) = wo neg (nr mag place) := nearest_wo neg mag place

theorem sub_nan {x y : Nat} (h : infR < rg x ∨ infR < rg y) : double.sub x y = none := by
  unfold Format.sub
  rcases h with h | h
  · rw [read_nan h]; rfl
  · rw [read_nan h]
    rcases Nat.lt_trichotomy (rg x) infR with hx | hx | hx
    · rw [read_num hx]; rfl
    · rw [read_inf hx]; rfl
    · rw [read_nan hx]; rfl

theorem signed_not (s : Bool) (m a : Nat) : signed (!s) m a = - signed s m a := by
  unfold signed; cases s <;> simp

/-- THE DIFFERENCE OF TWO UNLIKE WORDS THAT ARE NO NaNs, both ways. -/
theorem sub_two {x y : Nat} (hx : rg x ≤ infR) (hy : rg y ≤ infR) (ne : sk x ≠ sk y) :
    ∃ r, r ≤ infR ∧ double.sub x y = some (wo (decide (sk x < sk y)) r) ∧ double.sub y x = some (wo (decide (sk y < sk x)) r) := by
  have kc := ky_sk x y
  have kl : sk x < sk y ↔ ky x < ky y := by
    rw [← Int.compare_eq_lt, ← Int.compare_eq_lt, kc]
  have kl2 : sk y < sk x ↔ ky y < ky x := by
    rw [← Int.compare_eq_gt, ← Int.compare_eq_gt, kc]
  have ne' : ky x ≠ ky y := by
    intro e; exact ne (Int.compare_eq_eq.1 (by rw [← kc]; exact Int.compare_eq_eq.2 e))
  unfold Format.sub
  rcases Nat.lt_or_eq_of_le hx with hx | hx <;> rcases Nat.lt_or_eq_of_le hy with hy | hy
  · rw [read_num hx, read_num hy]
    unfold Datum.opposite Datum.sum
    dsimp only
    obtain ⟨k, a, b, e1, e2, ea, eb⟩ : ∃ k a b : Nat, (-1074 + (pl x : Int) - min (-1074 + (pl x : Int)) (-1074 + (pl y : Int))).toNat = a ∧ (-1074 + (pl y : Int) - min (-1074 + (pl x : Int)) (-1074 + (pl y : Int))).toNat = b ∧ a + k = pl x ∧ b + k = pl y :=
      ⟨min (pl x) (pl y), pl x - min (pl x) (pl y), pl y - min (pl x) (pl y), by omega, by omega, by omega, by omega⟩
    rw [Int.min_comm (-1074 + (pl y : Int)) (-1074 + (pl x : Int)), e1, e2, signed_not, signed_not]
    have hp : (0 : Int) < ((2 ^ k : Nat) : Int) := by exact_mod_cast Nat.two_pow_pos k
    have q1 : signed (sg x) (mg x) a * ((2 ^ k : Nat) : Int) = ky x := by rw [signed_scale, ea, signed_ky]
    have q2 : signed (sg y) (mg y) b * ((2 ^ k : Nat) : Int) = ky y := by rw [signed_scale, eb, signed_ky]
    generalize signed (sg x) (mg x) a = A at q1
    generalize signed (sg y) (mg y) b = B at q2
    have l1 : A < B ↔ sk x < sk y := by rw [kl, ← q1, ← q2]; exact (Int.mul_lt_mul_right hp).symm
    have l2 : B < A ↔ sk y < sk x := by rw [kl2, ← q1, ← q2]; exact (Int.mul_lt_mul_right hp).symm
    have l3 : A ≠ B := by intro e; exact ne' (by rw [← q1, ← q2, e])
    refine ⟨nr (A + -B).natAbs (min (-1074 + (pl x : Int)) (-1074 + (pl y : Int))), nr_le _ _, ?_, ?_⟩
    · rw [if_neg (by omega)]
      show some (double.write _) = _
      rw [write_num]
      congr 2
      exact decide_eq_decide.2 (by rw [← l1]; omega)
    · rw [if_neg (by omega)]
      show some (double.write _) = _
      rw [write_num]
      have : (B + -A).natAbs = (A + -B).natAbs := by omega
      rw [this]
      congr 2
      exact decide_eq_decide.2 (by rw [← l2]; omega)
  · rw [read_num hx, read_inf hy]
    have h1 := vl_inf_lt hx
    refine ⟨infR, Nat.le_refl _, ?_, ?_⟩
    · show some (double.write (.infinity (!(sg y)))) = _
      rw [write_inf]
      congr 2
      rw [Bool.eq_iff_iff, decide_eq_true_iff, kl]
      unfold ky; rw [hy]
      generalize vl infR = V at h1
      generalize vl (rg x) = U at h1
      cases sg x <;> cases sg y <;> simp only [Bool.not_true, Bool.not_false, if_true, if_false, Bool.false_eq_true, true_iff, false_iff] <;> omega
    · show some (double.write (.infinity (sg y))) = _
      rw [write_inf]
      congr 2
      rw [Bool.eq_iff_iff, decide_eq_true_iff, kl2]
      unfold ky; rw [hy]
      generalize vl infR = V at h1
      generalize vl (rg x) = U at h1
      cases sg x <;> cases sg y <;> simp only [if_true, if_false, Bool.false_eq_true, true_iff, false_iff] <;> omega
  · rw [read_inf hx, read_num hy]
    have h1 := vl_inf_lt hy
    refine ⟨infR, Nat.le_refl _, ?_, ?_⟩
    · show some (double.write (.infinity (sg x))) = _
      rw [write_inf]
      congr 2
      rw [Bool.eq_iff_iff, decide_eq_true_iff, kl]
      unfold ky; rw [hx]
      generalize vl infR = V at h1
      generalize vl (rg y) = U at h1
      cases sg x <;> cases sg y <;> simp only [if_true, if_false, Bool.false_eq_true, true_iff, false_iff] <;> omega
    · show some (double.write (.infinity (!(sg x)))) = _
      rw [write_inf]
      congr 2
      rw [Bool.eq_iff_iff, decide_eq_true_iff, kl2]
      unfold ky; rw [hx]
      generalize vl infR = V at h1
      generalize vl (rg y) = U at h1
      cases sg x <;> cases sg y <;> simp only [Bool.not_true, Bool.not_false, if_true, if_false, Bool.false_eq_true, true_iff, false_iff] <;> omega
  · have h0 : 0 < vl infR := by have := vl_lt (r := 0) (s := infR) (by decide); omega
    have hs : sg y = !(sg x) := by
      unfold sk at ne
      rw [hx, hy] at ne
      cases h1 : sg x <;> cases h2 : sg y <;> simp_all
    rw [read_inf hx, read_inf hy]
    refine ⟨infR, Nat.le_refl _, ?_, ?_⟩
    · show Option.map double.write (if sg x = !(sg y) then some (.infinity (sg x)) else none) = _
      rw [hs, Bool.not_not, if_pos rfl]
      show some (double.write (.infinity (sg x))) = _
      rw [write_inf]
      congr 2
      rw [Bool.eq_iff_iff, decide_eq_true_iff, kl]
      unfold ky; rw [hx, hy, hs]
      generalize vl infR = V at h0
      cases sg x <;> simp only [Bool.not_true, Bool.not_false, if_true, if_false, Bool.false_eq_true, true_iff, false_iff] <;> omega
    · show Option.map double.write (if sg y = !(sg x) then some (.infinity (sg y)) else none) = _
      rw [hs, if_pos rfl]
      show some (double.write (.infinity (!(sg x)))) = _
      rw [write_inf]
      congr 2
      rw [Bool.eq_iff_iff, decide_eq_true_iff, kl2]
      unfold ky; rw [hx, hy, hs]
      generalize vl infR = V at h0
      cases sg x <;> simp only [Bool.not_true, Bool.not_false, if_true, if_false, Bool.false_eq_true, true_iff, false_iff] <;> omega

end Go.Proofs.Ytodgdbbhllejkaa
