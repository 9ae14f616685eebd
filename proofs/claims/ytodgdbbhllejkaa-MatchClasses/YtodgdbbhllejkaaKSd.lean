/- What Minus, Same, Tolerance, Within, Order of both answer. -/
import Derived.Test.YtodgdbbhllejkaaKSc
import Derived.Deep.RegionHeld3
import Derived.BigQuiet
namespace Go.Proofs.Ytodgdbbhllejkaa
open Go.RowKit Ieee

def oneW : Nat := 4607182418800017408
theorem div_zero {a x : Nat} (ha : rg a < infR) (h0 : rg a ≠ 0) (hx : rg x = 0) : floatBits .quo .f64 a x = some (wo (sg a ^^ sg x) infR) := by
  show double.div a x = _
  unfold Format.div
  have hm : mg a ≠ 0 := by unfold mg; split <;> omega
  have hn : mg x = 0 := by unfold mg; rw [hx]; rfl
  rw [read_num ha, read_num (x := x) (by rw [hx]; decide), hn]
  unfold Datum.quotient
  dsimp only
  rw [if_pos rfl, if_neg hm]
  show some (double.write (.infinity (sg a ^^ sg x))) = _
  rw [write_inf]

/-- The nought below 0. -/
def minusB (x : Nat) : Bool := decide (rg x = 0) && sg x
theorem sk_zero : sk 0 = 0 := rfl
theorem sk_eq_zero {x : Nat} : sk x = 0 ↔ rg x = 0 := by unfold sk; split <;> omega
theorem eqB_zero (x : Nat) : eqB x 0 = decide (rg x = 0) := by
  unfold eqB
  rw [sk_zero]
  by_cases h : rg x = 0
  · rw [decide_eq_true (sk_eq_zero.2 h), decide_eq_true h, isN_no (by rw [h]; decide)]; rfl
  · rw [decide_eq_false (fun e => h (sk_eq_zero.1 e)), decide_eq_false h, Bool.and_false]

def sameB (a b : Nat) : Bool := if isN a || isN b then isN a && isN b else eqB a b && (minusB a == minusB b)

/-- A tolerance. -/
def tolB (x : Nat) : Bool := leB 0 x
/-- What Tolerance answers. -/
def tolV (x : Nat) : Value := if tolB x then .tuple #[.float .f64 (if rg x = 0 then 0 else x), .int .i64 0] else .tuple #[.float .f64 0, .int .i64 102]
theorem tolB_spec (x : Nat) : tolB x = (!isN x && decide (0 ≤ sk x)) := rfl

set_option maxRecDepth 100000 in
theorem tolerance_any (x : Nat) (w : World) :
    Calls Try.prog 30 #[.float .f64 x] w fun e w' => e = .returned (tolV x) ∧ w' = w := by
  have HR : Hid (tolV x = if tolB x then .tuple #[.float .f64 (if rg x = 0 then 0 else x), .int .i64 0] else .tuple #[.float .f64 0, .int .i64 102]) := rfl
  go_enter Try.func30, Try.ntmps30
  go_wp2_with fail
  refine (isNaN_any x _).mono ?_
  rintro e w1 ⟨rfl, rfl⟩
  cases hn : isN x
  · by_cases hs : sk x < 0
    · have h1 : (FloatKind.f64.format.order x 0 == some Ordering.lt) = true := by rw [o_lt]; unfold ltB; rw [hn, sk_zero, decide_eq_true hs]; rfl
      have ht : tolB x = false := by rw [tolB_spec, decide_eq_false (by omega), Bool.and_false]
      rw [ht] at HR
      clear hs ht
      go_wp2_with fail
      all_goals (go_ret2; exact ⟨by rw [HR.out]; rfl, rfl⟩)
    · have h1 : (FloatKind.f64.format.order x 0 == some Ordering.lt) = false := by rw [o_lt]; unfold ltB; rw [sk_zero, decide_eq_false hs, Bool.and_false]
      have ht : tolB x = true := by rw [tolB_spec, hn, decide_eq_true (by omega)]; rfl
      rw [ht] at HR
      by_cases h0 : rg x = 0
      · have h2 : (FloatKind.f64.format.order x 0 == some Ordering.eq) = true := by rw [o_eq, eqB_zero, decide_eq_true h0]
        rw [if_pos h0] at HR
        clear hs ht h0
        go_wp2_with fail
        all_goals (go_ret2; exact ⟨by rw [HR.out]; rfl, rfl⟩)
      · have h2 : (FloatKind.f64.format.order x 0 == some Ordering.eq) = false := by rw [o_eq, eqB_zero, decide_eq_false h0]
        rw [if_neg h0] at HR
        clear hs ht h0
        go_wp2_with fail
        all_goals (go_ret2; exact ⟨by rw [HR.out]; rfl, rfl⟩)
  · have ht : tolB x = false := by rw [tolB_spec, hn]; rfl
    rw [ht] at HR
    clear ht
    go_wp2_with fail
    all_goals (go_ret2; exact ⟨by rw [HR.out]; rfl, rfl⟩)

/-- How far two unlike words are from each other: a rung. -/
def dist (a b : Nat) : Nat := rg ((double.sub a b).getD 0)
/-- What Within answers. -/
def wiB (a b t : Nat) : Bool := tolB t && !isN a && !isN b && (decide (sk a = sk b) || decide (dist a b ≤ rg t))
theorem dist_spec {a b : Nat} (ha : isN a = false) (hb : isN b = false) (ne : sk a ≠ sk b) : dist a b ≤ infR ∧ double.sub a b = some (wo (decide (sk a < sk b)) (dist a b)) ∧ dist b a = dist a b := by
  obtain ⟨r, h1, h2, h3⟩ := sub_two (isN_false ha) (isN_false hb) ne
  have e1 : dist a b = r := by unfold dist; rw [h2]; exact rg_wo h1
  have e2 : dist b a = r := by unfold dist; rw [h3]; exact rg_wo h1
  rw [e1, e2]
  exact ⟨h1, h2, rfl⟩
theorem tol_rg {t : Nat} (h : tolB t = true) : rg t ≤ infR ∧ sk t = rg t := by
  rw [tolB_spec, Bool.and_eq_true, decide_eq_true_iff, Bool.not_eq_true'] at h
  refine ⟨isN_false h.1, ?_⟩
  have := h.2
  unfold sk at this ⊢
  split
  · rename_i e; rw [if_pos e] at this; omega
  · rfl