/- What the small functions over floats answer: Abs, Signbit, IsNaN, NaN, Minus, Same, side, Tolerance, Within, Order, of both. -/
import Derived.Test.YtodgdbbhllejkaaKSn
namespace Go.Proofs.Ytodgdbbhllejkaa
open Go.RowKit Ieee

theorem abs_bits {x : Nat} (h : x < 18446744073709551616) : (bits .andNot .u64 (x : Int) 9223372036854775808).toNat = rg x := by
  have e := u64_andNot_nat x 9223372036854775808 h (by decide)
  have e2 : ((9223372036854775808 : Nat) : Int) = 9223372036854775808 := rfl
  rw [e2] at e
  rw [e, Int.toNat_natCast]
  exact Nat.and_two_pow_sub_one_eq_mod x 63
theorem sg_lt {x : Nat} (h : x < 18446744073709551616) : sg x = decide (9223372036854775808 ≤ x) := by
  unfold sg
  rw [Bool.eq_iff_iff, beq_iff_eq, decide_eq_true_iff]
  omega
theorem signbit_bits {x : Nat} (h : x < 18446744073709551616) : decide (wrap64 (x : Int) < 0) = sg x := by
  rw [sg_lt h, Bool.eq_iff_iff, decide_eq_true_iff, decide_eq_true_iff]
  unfold wrap64
  omega
theorem rg_lt (x : Nat) : rg x < 9223372036854775808 := Nat.mod_lt _ (by decide)
theorem rg_rg (x : Nat) : rg (rg x) = rg x := Nat.mod_eq_of_lt (rg_lt x)
theorem sg_rg (x : Nat) : sg (rg x) = false := by
  rw [sg_lt (Nat.lt_trans (rg_lt x) (by decide))]
  exact decide_eq_false (by have := rg_lt x; omega)
theorem isN_rg (x : Nat) : isN (rg x) = isN x := by unfold isN; rw [rg_rg]
theorem sk_rg (x : Nat) : sk (rg x) = rg x := by unfold sk; rw [sg_rg, rg_rg]; rfl
theorem isN_true {x : Nat} (h : isN x = true) : infR < rg x := of_decide_eq_true h
theorem isN_false {x : Nat} (h : isN x = false) : rg x ≤ infR := Nat.le_of_not_lt (of_decide_eq_false h)
theorem isN_of {x : Nat} (h : infR < rg x) : isN x = true := decide_eq_true h
theorem isN_no {x : Nat} (h : rg x ≤ infR) : isN x = false := decide_eq_false (by omega)

/-- Less, equal, at most. -/
def ltB (x y : Nat) : Bool := !isN x && !isN y && decide (sk x < sk y)
def eqB (x y : Nat) : Bool := !isN x && !isN y && decide (sk x = sk y)
def leB (x y : Nat) : Bool := !isN x && !isN y && decide (sk x ≤ sk y)

theorem ord_cases (x y : Nat) : (isN x = true ∨ isN y = true) ∧ FloatKind.f64.format.order x y = none ∨ isN x = false ∧ isN y = false ∧ FloatKind.f64.format.order x y = some (compare (sk x) (sk y)) := by
  cases hx : isN x
  · cases hy : isN y
    · exact Or.inr ⟨rfl, rfl, order_sk (isN_false hx) (isN_false hy)⟩
    · exact Or.inl ⟨Or.inr rfl, order_nan (Or.inr (isN_true hy))⟩
  · exact Or.inl ⟨Or.inl rfl, order_nan (Or.inl (isN_true hx))⟩
theorem beq_compare_lt (a b : Int) : (some (compare a b) == some Ordering.lt) = decide (a < b) := by
  rw [Bool.eq_iff_iff, beq_iff_eq, decide_eq_true_iff, Option.some.injEq, Int.compare_eq_lt]
theorem beq_compare_eq (a b : Int) : (some (compare a b) == some Ordering.eq) = decide (a = b) := by
  rw [Bool.eq_iff_iff, beq_iff_eq, decide_eq_true_iff, Option.some.injEq, Int.compare_eq_eq]
theorem beq_compare_gt (a b : Int) : (some (compare a b) == some Ordering.gt) = decide (b < a) := by
  rw [Bool.eq_iff_iff, beq_iff_eq, decide_eq_true_iff, Option.some.injEq, Int.compare_eq_gt]
theorem o_lt (x y : Nat) : (FloatKind.f64.format.order x y == some Ordering.lt) = ltB x y := by
  unfold ltB
  rcases ord_cases x y with ⟨h, e⟩ | ⟨h1, h2, e⟩
  · rw [e]; rcases h with h | h <;> rw [h] <;> simp
  · rw [e, beq_compare_lt, h1, h2]; rfl
theorem o_gt (x y : Nat) : (FloatKind.f64.format.order x y == some Ordering.gt) = ltB y x := by
  unfold ltB
  rcases ord_cases x y with ⟨h, e⟩ | ⟨h1, h2, e⟩
  · rw [e]; rcases h with h | h <;> rw [h] <;> simp
  · rw [e, beq_compare_gt, h1, h2]; rfl
theorem o_eq (x y : Nat) : (FloatKind.f64.format.order x y == some Ordering.eq) = eqB x y := by
  unfold eqB
  rcases ord_cases x y with ⟨h, e⟩ | ⟨h1, h2, e⟩
  · rw [e]; rcases h with h | h <;> rw [h] <;> simp
  · rw [e, beq_compare_eq, h1, h2]; rfl
theorem o_ne (x y : Nat) : (FloatKind.f64.format.order x y != some Ordering.eq) = !eqB x y := by rw [bne, o_eq]
theorem o_le (x y : Nat) : (FloatKind.f64.format.order x y == some Ordering.lt || FloatKind.f64.format.order x y == some Ordering.eq) = leB x y := by
  rw [o_lt, o_eq]
  unfold ltB eqB leB
  cases isN x <;> cases isN y <;> simp only [Bool.not_true, Bool.not_false, Bool.false_and, Bool.true_and, Bool.or_false, Bool.and_false]
  rw [Bool.eq_iff_iff, Bool.or_eq_true, decide_eq_true_iff, decide_eq_true_iff, decide_eq_true_iff]
  omega
theorem o_ge (x y : Nat) : (FloatKind.f64.format.order x y == some Ordering.gt || FloatKind.f64.format.order x y == some Ordering.eq) = leB y x := by
  rw [o_gt, o_eq]
  unfold ltB eqB leB
  cases isN x <;> cases isN y <;> simp only [Bool.not_true, Bool.not_false, Bool.false_and, Bool.true_and, Bool.or_false, Bool.and_false]
  rw [Bool.eq_iff_iff, Bool.or_eq_true, decide_eq_true_iff, decide_eq_true_iff, decide_eq_true_iff]
  omega
theorem eqB_self (x : Nat) : eqB x x = !isN x := by
  unfold eqB; cases isN x <;> simp

set_option maxRecDepth 100000 in
theorem isNaN_any (x : Nat) (w : World) :
    Calls Try.prog 47 #[.float .f64 x] w fun e w' => e = .returned (.bool (isN x)) ∧ w' = w := by
  go_enter Try.func47, Try.ntmps47
  go_wp2_with fail
  all_goals (go_ret; exact ⟨by rw [← Bool.not_not (isN x), ← eqB_self, ← o_ne]; rfl, rfl⟩)