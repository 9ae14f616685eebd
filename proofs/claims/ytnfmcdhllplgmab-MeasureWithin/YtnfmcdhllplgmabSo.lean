/- What Order and Within of both answer. -/
import Derived.Test.YtnfmcdhllplgmabSd
namespace Go.Proofs.Ytnfmcdhllplgmab
open Go.RowKit Ieee

/-- What Order answers. -/
def ordI (a b : Nat) : Int :=
  if isN a then (if isN b then 0 else 1) else if isN b then -1 else
  if sk a < sk b then -1 else if sk b < sk a then 1 else sideI a - sideI b

theorem lt_false {a b : Nat} (h : isN a = true ∨ isN b = true) : ltB a b = false := by
  unfold ltB; rcases h with h | h <;> rw [h] <;> simp

set_option maxRecDepth 100000 in
theorem order_any (a b : Nat) (ha : a < 18446744073709551616) (hb : b < 18446744073709551616) (w : World) :
    Calls Try.prog 39 #[.float .f64 a, .float .f64 b] w fun e w' => e = .returned (.int .i64 (ordI a b)) ∧ w' = w := by
  have HR : Hid (ordI a b = if isN a then (if isN b then 0 else 1) else if isN b then -1 else
      if sk a < sk b then -1 else if sk b < sk a then 1 else sideI a - sideI b) := rfl
  have HA : Hid (a < 18446744073709551616) := ha
  have HB : Hid (b < 18446744073709551616) := hb
  clear ha hb
  go_enter Try.func39, Try.ntmps39
  go_wp2_with fail
  refine (isNaN_any a _).mono ?_
  rintro e w1 ⟨rfl, rfl⟩
  cases na : isN a
  · rw [na] at HR
    go_wp2_with fail
    refine (isNaN_any b _).mono ?_
    rintro e w1 ⟨rfl, rfl⟩
    cases nb : isN b
    · rw [nb] at HR
      by_cases h1 : sk a < sk b
      · have o1 : (FloatKind.f64.format.order a b == some Ordering.lt) = true := by rw [o_lt]; unfold ltB; rw [na, nb, decide_eq_true h1]; rfl
        have HV : Hid (ordI a b = -1) := by show _ = _; rw [HR.out, if_pos h1]; rfl
        clear h1
        go_wp2_with fail
        all_goals (go_ret; exact ⟨by rw [HV.out]; rfl, rfl⟩)
      · have o1 : (FloatKind.f64.format.order a b == some Ordering.lt) = false := by rw [o_lt]; unfold ltB; rw [decide_eq_false h1, Bool.and_false]
        have HL1 : Hid (¬ sk a < sk b) := h1
        clear h1
        go_wp2_with fail
        refine (isNaN_any a _).mono ?_
        rintro e w1 ⟨rfl, rfl⟩
        rw [na]
        by_cases h2 : sk b < sk a
        · have o2 : (FloatKind.f64.format.order a b == some Ordering.gt) = true := by rw [o_gt]; unfold ltB; rw [na, nb, decide_eq_true h2]; rfl
          have HV : Hid (ordI a b = 1) := by show _ = _; rw [HR.out, if_neg (show ¬ sk a < sk b by have := HL1.out; omega), if_pos h2]; rfl
          clear h2
          go_wp2_with fail
          all_goals (go_ret; exact ⟨by rw [HV.out]; rfl, rfl⟩)
        · have o2 : (FloatKind.f64.format.order a b == some Ordering.gt) = false := by rw [o_gt]; unfold ltB; rw [decide_eq_false h2, Bool.and_false]
          have HV : Hid (ordI a b = sideI a - sideI b) := by show _ = _; rw [HR.out, if_neg (show ¬ sk a < sk b by have := HL1.out; omega), if_neg h2]; rfl
          clear h2
          obtain ⟨A, eA, hA⟩ : ∃ A, sideI a = A ∧ (A = 0 ∨ A = -1) := ⟨_, rfl, by unfold sideI; cases sg a <;> simp⟩
          obtain ⟨B, eB, hB⟩ : ∃ B, sideI b = B ∧ (B = 0 ∨ B = -1) := ⟨_, rfl, by unfold sideI; cases sg b <;> simp⟩
          rw [eA, eB] at HV
          go_wp2_with fail
          refine (side_any a HA.out _).mono ?_
          rintro e w1 ⟨rfl, rfl⟩
          rw [eA]
          go_wp2_with fail
          refine (side_any b HB.out _).mono ?_
          rintro e w1 ⟨rfl, rfl⟩
          rw [eB]
          rcases hA with rfl | rfl <;> rcases hB with rfl | rfl <;> go_wp2_with fail
          all_goals (go_ret; exact ⟨by rw [HV.out]; rfl, rfl⟩)
    · rw [nb] at HR
      go_wp2_with fail
      all_goals (go_ret; exact ⟨by rw [HR.out]; rfl, rfl⟩)
  · rw [na] at HR
    go_wp2_with fail
    refine (isNaN_any b _).mono ?_
    rintro e w1 ⟨rfl, rfl⟩
    cases nb : isN b
    · rw [nb] at HR
      have o1 : (FloatKind.f64.format.order a b == some Ordering.lt) = false := by rw [o_lt, lt_false (Or.inl na)]
      go_wp2_with fail
      refine (isNaN_any b _).mono ?_
      rintro e w1 ⟨rfl, rfl⟩
      rw [nb]
      go_wp2_with fail
      refine (isNaN_any a _).mono ?_
      rintro e w1 ⟨rfl, rfl⟩
      rw [na]
      go_wp2_with fail
      all_goals (go_ret; exact ⟨by rw [HR.out]; rfl, rfl⟩)
    · rw [nb] at HR
      go_wp2_with fail
      all_goals (go_ret; exact ⟨by rw [HR.out]; rfl, rfl⟩)

theorem ordI_minus {a b : Nat} (na : isN a = false) (nb : isN b = false) (h1 : ¬ sk a < sk b) (h2 : ¬ sk b < sk a) :
    ordI a b = if minusB a && !minusB b then -1 else if minusB b && !minusB a then 1 else 0 := by
  unfold ordI minusB sideI
  rw [na, nb, if_neg (by simp), if_neg (by simp), if_neg h1, if_neg h2]
  unfold sk at h1 h2
  cases sa : sg a <;> cases sb : sg b <;> rw [sa, sb] at h1 h2 <;> simp only [if_true, if_false, Bool.false_eq_true] at h1 h2
  · have : decide (rg a = 0) = decide (rg b = 0) := decide_eq_decide.2 (by omega)
    simp
  · have e1 : decide (rg a = 0) = true := decide_eq_true (by omega)
    have e2 : decide (rg b = 0) = true := decide_eq_true (by omega)
    rw [e1, e2]; rfl
  · have e1 : decide (rg a = 0) = true := decide_eq_true (by omega)
    have e2 : decide (rg b = 0) = true := decide_eq_true (by omega)
    rw [e1, e2]; rfl
  · have : decide (rg a = 0) = decide (rg b = 0) := decide_eq_decide.2 (by omega)
    rw [this]
    cases decide (rg b = 0) <;> rfl