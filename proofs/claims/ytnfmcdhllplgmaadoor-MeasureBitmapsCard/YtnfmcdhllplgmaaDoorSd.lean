/- What Minus, Same, Tolerance, Within, Order of both answer. -/
import Derived.Test.YtnfmcdhllplgmaaDoorSc
import Derived.Deep.RegionHeld3
import Derived.BigQuiet
namespace Go.Proofs.YtnfmcdhllplgmaaDoor
open Go.RowKit Ieee

def oneW : Nat := 4607182418800017408
theorem div_zero {a x : Nat} (ha : rg a < infR) (h0 : rg a ≠ 0) (hx : rg x = 0) : floatBits .quo .f64 a x = some (wo (sg a ^^ sg x) infR) := by
  show double.div a x = _
  unfold Format.div
  have hm : mg a ≠ 0 := by unfold mg; split <;> omega
  have hn : mg x = 0 := by unfold mg; rw [hx]; rfl
  rw [read_num ha, read_num (x := x) (by rw [hx]; decide), hn]
  unfold Datum.quotient
  dsimp only
  rw [if_pos rfl, if_neg hm]
  show some (double.write (.infinity (sg a ^^ sg x))) = _
  rw [write_inf]

/-- The nought below 0. -/
def minusB (x : Nat) : Bool := decide (rg x = 0) && sg x
theorem sk_zero : sk 0 = 0 := rfl
theorem sk_eq_zero {x : Nat} : sk x = 0 ↔ rg x = 0 := by unfold sk; split <;> omega
theorem eqB_zero (x : Nat) : eqB x 0 = decide (rg x = 0) := by
  unfold eqB
  rw [sk_zero]
  by_cases h : rg x = 0
  · rw [decide_eq_true (sk_eq_zero.2 h), decide_eq_true h, isN_no (by rw [h]; decide)]; rfl
  · rw [decide_eq_false (fun e => h (sk_eq_zero.1 e)), decide_eq_false h, Bool.and_false]

set_option maxRecDepth 100000 in
theorem minus_any (x : Nat) (w : World) :
    Calls Tryd.prog 28 #[.float .f64 x] w fun e w' => e = .returned (.bool (minusB x)) ∧ w' = w := by
  by_cases h : rg x = 0
  · have h1 : (FloatKind.f64.format.order x 0 == some Ordering.eq) = true := by rw [o_eq, eqB_zero]; exact decide_eq_true h
    have h2 : ∀ t w, (binOp .quo t (.float .f64 4607182418800017408) (.float .f64 x)).run Tryd.prog w = .ok (.float .f64 (wo (sg x) infR)) w := fun t w => by
      have := div_zero (a := oneW) (x := x) (by decide) (by decide) h
      rw [show sg oneW = false from by decide, Bool.false_xor] at this
      exact run_float_arith w .quo t .f64 _ x _ this
    have HR : Hid ((FloatKind.f64.format.order (wo (sg x) infR) 0 == some Ordering.lt) = minusB x) := by
      show _ = _
      rw [o_lt]
      unfold minusB
      rw [decide_eq_true h, Bool.true_and]
      cases sg x <;> decide
    have HH : Hid (rg x = 0) := h
    clear h
    go_enter Tryd.func28, Tryd.ntmps28
    go_wp2_with (simp only [h1, h2])
    all_goals (go_ret; exact ⟨by rw [← HR.out]; rfl, rfl⟩)
  · have h1 : (FloatKind.f64.format.order x 0 == some Ordering.eq) = false := by rw [o_eq, eqB_zero]; exact decide_eq_false h
    have HR : Hid (minusB x = false) := by show _ = _; unfold minusB; rw [decide_eq_false h, Bool.false_and]
    clear h
    go_enter Tryd.func28, Tryd.ntmps28
    go_wp2_with (simp only [h1])
    all_goals (go_ret; exact ⟨by rw [HR.out]; rfl, rfl⟩)

def sameB (a b : Nat) : Bool := if isN a || isN b then isN a && isN b else eqB a b && (minusB a == minusB b)

set_option maxRecDepth 100000 in
theorem same_any (a b : Nat) (w : World) :
    Calls Tryd.prog 12 #[.float .f64 a, .float .f64 b] w fun e w' => e = .returned (.bool (sameB a b)) ∧ w' = w := by
  have HR : Hid (sameB a b = if isN a || isN b then isN a && isN b else eqB a b && (minusB a == minusB b)) := rfl
  go_enter Tryd.func12, Tryd.ntmps12
  go_wp2_with fail
  refine (nan_any a _).mono ?_
  rintro e w1 ⟨rfl, rfl⟩
  cases ha : isN a
  · go_wp2_with fail
    refine (nan_any b _).mono ?_
    rintro e w1 ⟨rfl, rfl⟩
    cases hb : isN b
    · rw [ha, hb] at HR
      cases he : eqB a b
      · have h1 : (FloatKind.f64.format.order a b == some Ordering.eq) = false := by rw [o_eq, he]
        go_wp2_with fail
        all_goals (go_ret; exact ⟨by rw [HR.out, he]; rfl, rfl⟩)
      · have h1 : (FloatKind.f64.format.order a b == some Ordering.eq) = true := by rw [o_eq, he]
        go_wp2_with fail
        refine (minus_any a _).mono ?_
        rintro e w1 ⟨rfl, rfl⟩
        go_wp2_with fail
        refine (minus_any b _).mono ?_
        rintro e w1 ⟨rfl, rfl⟩
        go_wp2_with fail
        all_goals (go_ret; exact ⟨by rw [HR.out, he]; rfl, rfl⟩)
    · rw [ha, hb] at HR
      go_wp2_with fail
      refine (nan_any a _).mono ?_
      rintro e w1 ⟨rfl, rfl⟩
      rw [ha]
      go_wp2_with fail
      all_goals (go_ret; exact ⟨by rw [HR.out]; rfl, rfl⟩)
  · go_wp2_with fail
    refine (nan_any a _).mono ?_
    rintro e w1 ⟨rfl, rfl⟩
    rw [ha]
    go_wp2_with fail
    refine (nan_any b _).mono ?_
    rintro e w1 ⟨rfl, rfl⟩
    go_wp2_with fail
    all_goals (go_ret; exact ⟨by rw [HR.out, ha]; cases isN b <;> rfl, rfl⟩)

/-- A tolerance. -/
def tolB (x : Nat) : Bool := leB 0 x
/-- What Tolerance answers. -/
def tolV (x : Nat) : Value := if tolB x then .tuple #[.float .f64 (if rg x = 0 then 0 else x), .int .i64 0] else .tuple #[.float .f64 0, .int .i64 102]
theorem tolB_spec (x : Nat) : tolB x = (!isN x && decide (0 ≤ sk x)) := rfl

set_option maxRecDepth 100000 in
theorem tolerance_any (x : Nat) (w : World) :
    Calls Tryd.prog 38 #[.float .f64 x] w fun e w' => e = .returned (tolV x) ∧ w' = w := by
  have HR : Hid (tolV x = if tolB x then .tuple #[.float .f64 (if rg x = 0 then 0 else x), .int .i64 0] else .tuple #[.float .f64 0, .int .i64 102]) := rfl
  go_enter Tryd.func38, Tryd.ntmps38
  go_wp2_with fail
  refine (isNaN_any x _).mono ?_
  rintro e w1 ⟨rfl, rfl⟩
  cases hn : isN x
  · by_cases hs : sk x < 0
    · have h1 : (FloatKind.f64.format.order x 0 == some Ordering.lt) = true := by rw [o_lt]; unfold ltB; rw [hn, sk_zero, decide_eq_true hs]; rfl
      have ht : tolB x = false := by rw [tolB_spec, decide_eq_false (by omega), Bool.and_false]
      rw [ht] at HR
      clear hs ht
      go_wp2_with fail
      all_goals (go_ret2; exact ⟨by rw [HR.out]; rfl, rfl⟩)
    · have h1 : (FloatKind.f64.format.order x 0 == some Ordering.lt) = false := by rw [o_lt]; unfold ltB; rw [sk_zero, decide_eq_false hs, Bool.and_false]
      have ht : tolB x = true := by rw [tolB_spec, hn, decide_eq_true (by omega)]; rfl
      rw [ht] at HR
      by_cases h0 : rg x = 0
      · have h2 : (FloatKind.f64.format.order x 0 == some Ordering.eq) = true := by rw [o_eq, eqB_zero, decide_eq_true h0]
        rw [if_pos h0] at HR
        clear hs ht h0
        go_wp2_with fail
        all_goals (go_ret2; exact ⟨by rw [HR.out]; rfl, rfl⟩)
      · have h2 : (FloatKind.f64.format.order x 0 == some Ordering.eq) = false := by rw [o_eq, eqB_zero, decide_eq_false h0]
        rw [if_neg h0] at HR
        clear hs ht h0
        go_wp2_with fail
        all_goals (go_ret2; exact ⟨by rw [HR.out]; rfl, rfl⟩)
  · have ht : tolB x = false := by rw [tolB_spec, hn]; rfl
    rw [ht] at HR
    clear ht
    go_wp2_with fail
    all_goals (go_ret2; exact ⟨by rw [HR.out]; rfl, rfl⟩)

/-- How far two unlike words are from each other: a rung. -/
def dist (a b : Nat) : Nat := rg ((double.sub a b).getD 0)
/-- What Within answers. -/
def wiB (a b t : Nat) : Bool := tolB t && !isN a && !isN b && (decide (sk a = sk b) || decide (dist a b ≤ rg t))
theorem dist_spec {a b : Nat} (ha : isN a = false) (hb : isN b = false) (ne : sk a ≠ sk b) : dist a b ≤ infR ∧ double.sub a b = some (wo (decide (sk a < sk b)) (dist a b)) ∧ dist b a = dist a b := by
  obtain ⟨r, h1, h2, h3⟩ := sub_two (isN_false ha) (isN_false hb) ne
  have e1 : dist a b = r := by unfold dist; rw [h2]; exact rg_wo h1
  have e2 : dist b a = r := by unfold dist; rw [h3]; exact rg_wo h1
  rw [e1, e2]
  exact ⟨h1, h2, rfl⟩
theorem tol_rg {t : Nat} (h : tolB t = true) : rg t ≤ infR ∧ sk t = rg t := by
  rw [tolB_spec, Bool.and_eq_true, decide_eq_true_iff, Bool.not_eq_true'] at h
  refine ⟨isN_false h.1, ?_⟩
  have := h.2
  unfold sk at this ⊢
  split
  · rename_i e; rw [if_pos e] at this; omega
  · rfl

set_option maxRecDepth 100000 in
theorem within_any (a b t : Nat) (ha : a < 18446744073709551616) (hb : b < 18446744073709551616) (w : World) :
    Calls Tryd.prog 30 #[.float .f64 a, .float .f64 b, .float .f64 t] w fun e w' => e = .returned (.bool (wiB a b t)) ∧ Fr (fun _ => False) w w' := by
  have HR : Hid (wiB a b t = (tolB t && !isN a && !isN b && (decide (sk a = sk b) || decide (dist a b ≤ rg t)))) := rfl
  have HT : Hid (tolV t = if tolB t then .tuple #[.float .f64 (if rg t = 0 then 0 else t), .int .i64 0] else .tuple #[.float .f64 0, .int .i64 102]) := rfl
  have HA : Hid (a < 18446744073709551616) := ha
  have HB : Hid (b < 18446744073709551616) := hb
  clear ha hb
  go_enter Tryd.func30, Tryd.ntmps30
  go_wp2_with fail
  refine (tolerance_any t _).mono ?_
  rintro e w1 ⟨rfl, rfl⟩
  rw [HT.out]
  cases ht : tolB t
  · rw [ht] at HR
    go_wp2_with fail
    all_goals (go_ret; exact ⟨by rw [HR.out]; rfl, Fr.refl _ _⟩)
  · rw [ht] at HR
    generalize (if rg t = 0 then 0 else t) = u
    have HTT : Hid (tolB t = true) := ht
    cases hab : eqB a b
    · have h1 : (FloatKind.f64.format.order a b == some Ordering.eq) = false := by rw [o_eq, hab]
      cases hx : floatBits .sub .f64 a b with
      | none =>
        have hop : ∀ ty w, (binOp .sub ty (.float .f64 a) (.float .f64 b)).run Tryd.prog w = .ok (.float .f64 (nanOf w a b)) w.drew := fun ty w => run_float_nan w .sub (by simp) ty a b hx
        have HN : Hid (wiB a b t = false) := by
          show _ = _
          rw [HR.out]
          cases na : isN a
          · cases nb : isN b
            · unfold eqB at hab
              rw [na, nb] at hab
              simp only [Bool.not_false, Bool.true_and, decide_eq_false_iff_not] at hab
              have := (dist_spec na nb hab).2.1
              have h' : double.sub a b = none := hx
              rw [h'] at this; cases this
            · rfl
          · rfl
        clear hab hx ht
        go_wp2_with fail
        refine (abs_any _ (nanOf_nan _ _ _).2 _).mono ?_
        rintro e w2 ⟨rfl, rfl⟩
        have h2 : (FloatKind.f64.format.order (rg (nanOf w1 a b)) t == some Ordering.lt || FloatKind.f64.format.order (rg (nanOf w1 a b)) t == some Ordering.eq) = false := by
          rw [o_le]; unfold leB; rw [isN_rg, isN_of (nanOf_nan _ _ _).1]; rfl
        go_wp2_with fail
        all_goals (go_ret; exact ⟨by rw [HN.out, ← h2]; rfl, (Fr.refl _ _).drew⟩)
      | some r =>
        have hop : ∀ ty w, (binOp .sub ty (.float .f64 a) (.float .f64 b)).run Tryd.prog w = .ok (.float .f64 r) w := fun ty w => run_float_arith w .sub ty .f64 a b r hx
        have HL : Hid (r < 18446744073709551616) := by
          show r < 18446744073709551616
          have := floatBits_wf hx
          simpa [Lit.wf] using this
        have HN : Hid ((FloatKind.f64.format.order (rg r) t == some Ordering.lt || FloatKind.f64.format.order (rg r) t == some Ordering.eq) = wiB a b t) := by
          show _ = _
          have h' : double.sub a b = some r := hx
          have na : isN a = false := by
            cases e : isN a
            · rfl
            · rw [sub_nan (Or.inl (isN_true e))] at h'; cases h'
          have nb : isN b = false := by
            cases e : isN b
            · rfl
            · rw [sub_nan (Or.inr (isN_true e))] at h'; cases h'
          unfold eqB at hab
          rw [na, nb] at hab
          simp only [Bool.not_false, Bool.true_and, decide_eq_false_iff_not] at hab
          obtain ⟨d1, d2, d3⟩ := dist_spec na nb hab
          have er : dist a b = rg r := by unfold dist; rw [h']; rfl
          rw [HR.out, na, nb, decide_eq_false hab, o_le, er]
          have tr := tol_rg ht
          unfold leB
          rw [isN_rg, isN_no (x := r) (by rw [← er]; exact d1), isN_no tr.1, sk_rg, tr.2]
          simp
        clear hab hx ht
        go_wp2_with fail
        refine (abs_any _ HL.out _).mono ?_
        rintro e w2 ⟨rfl, rfl⟩
        go_wp2_with fail
        all_goals (go_ret; exact ⟨by rw [← HN.out]; rfl, Fr.refl _ _⟩)
    · have h1 : (FloatKind.f64.format.order a b == some Ordering.eq) = true := by rw [o_eq, hab]
      have HN : Hid (wiB a b t = true) := by
        show _ = _
        rw [HR.out]
        unfold eqB at hab
        simp only [Bool.and_eq_true, Bool.not_eq_true', decide_eq_true_iff] at hab
        rw [hab.1.1, hab.1.2, decide_eq_true hab.2]; rfl
      clear hab ht
      go_wp2_with fail
      all_goals (go_ret; exact ⟨by rw [HN.out]; rfl, Fr.refl _ _⟩)
end Go.Proofs.YtnfmcdhllplgmaaDoor
