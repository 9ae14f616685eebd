/- What Order and Within of both answer. -/
import Derived.Test.YtnfmcdhllplgmaaSd
namespace Go.Proofs.Ytnfmcdhllplgmaa
open Go.RowKit Ieee

/-- What Order answers. -/
def ordI (a b : Nat) : Int :=
  if isN a then (if isN b then 0 else 1) else if isN b then -1 else
  if sk a < sk b then -1 else if sk b < sk a then 1 else sideI a - sideI b

theorem lt_false {a b : Nat} (h : isN a = true ∨ isN b = true) : ltB a b = false := by
  unfold ltB; rcases h with h | h <;> rw [h] <;> simp

set_option maxRecDepth 100000 in
theorem order_any (a b : Nat) (ha : a < 18446744073709551616) (hb : b < 18446744073709551616) (w : World) :
    Calls Try.prog 19 #[.float .f64 a, .float .f64 b] w fun e w' => e = .returned (.int .i64 (ordI a b)) ∧ w' = w := by
  have HR : Hid (ordI a b = if isN a then (if isN b then 0 else 1) else if isN b then -1 else
      if sk a < sk b then -1 else if sk b < sk a then 1 else sideI a - sideI b) := rfl
  have HA : Hid (a < 18446744073709551616) := ha
  have HB : Hid (b < 18446744073709551616) := hb
  clear ha hb
  go_enter Try.func19, Try.ntmps19
  go_wp2_with fail
  refine (isNaN_any a _).mono ?_
  rintro e w1 ⟨rfl, rfl⟩
  cases na : isN a
  · rw [na] at HR
    go_wp2_with fail
    refine (isNaN_any b _).mono ?_
    rintro e w1 ⟨rfl, rfl⟩
    cases nb : isN b
    · rw [nb] at HR
      by_cases h1 : sk a < sk b
      · have o1 : (FloatKind.f64.format.order a b == some Ordering.lt) = true := by rw [o_lt]; unfold ltB; rw [na, nb, decide_eq_true h1]; rfl
        have HV : Hid (ordI a b = -1) := by show _ = _; rw [HR.out, if_pos h1]; rfl
        clear h1
        go_wp2_with fail
        all_goals (go_ret; exact ⟨by rw [HV.out]; rfl, rfl⟩)
      · have o1 : (FloatKind.f64.format.order a b == some Ordering.lt) = false := by rw [o_lt]; unfold ltB; rw [decide_eq_false h1, Bool.and_false]
        have HL1 : Hid (¬ sk a < sk b) := h1
        clear h1
        go_wp2_with fail
        refine (isNaN_any a _).mono ?_
        rintro e w1 ⟨rfl, rfl⟩
        rw [na]
        by_cases h2 : sk b < sk a
        · have o2 : (FloatKind.f64.format.order a b == some Ordering.gt) = true := by rw [o_gt]; unfold ltB; rw [na, nb, decide_eq_true h2]; rfl
          have HV : Hid (ordI a b = 1) := by show _ = _; rw [HR.out, if_neg (show ¬ sk a < sk b by have := HL1.out; omega), if_pos h2]; rfl
          clear h2
          go_wp2_with fail
          all_goals (go_ret; exact ⟨by rw [HV.out]; rfl, rfl⟩)
        · have o2 : (FloatKind.f64.format.order a b == some Ordering.gt) = false := by rw [o_gt]; unfold ltB; rw [decide_eq_false h2, Bool.and_false]
          have HV : Hid (ordI a b = sideI a - sideI b) := by show _ = _; rw [HR.out, if_neg (show ¬ sk a < sk b by have := HL1.out; omega), if_neg h2]; rfl
          clear h2
          obtain ⟨A, eA, hA⟩ : ∃ A, sideI a = A ∧ (A = 0 ∨ A = -1) := ⟨_, rfl, by unfold sideI; cases sg a <;> simp⟩
          obtain ⟨B, eB, hB⟩ : ∃ B, sideI b = B ∧ (B = 0 ∨ B = -1) := ⟨_, rfl, by unfold sideI; cases sg b <;> simp⟩
          rw [eA, eB] at HV
          go_wp2_with fail
          refine (side_any a HA.out _).mono ?_
          rintro e w1 ⟨rfl, rfl⟩
          rw [eA]
          go_wp2_with fail
          refine (side_any b HB.out _).mono ?_
          rintro e w1 ⟨rfl, rfl⟩
          rw [eB]
          rcases hA with rfl | rfl <;> rcases hB with rfl | rfl <;> go_wp2_with fail
          all_goals (go_ret; exact ⟨by rw [HV.out]; rfl, rfl⟩)
    · rw [nb] at HR
      go_wp2_with fail
      all_goals (go_ret; exact ⟨by rw [HR.out]; rfl, rfl⟩)
  · rw [na] at HR
    go_wp2_with fail
    refine (isNaN_any b _).mono ?_
    rintro e w1 ⟨rfl, rfl⟩
    cases nb : isN b
    · rw [nb] at HR
      have o1 : (FloatKind.f64.format.order a b == some Ordering.lt) = false := by rw [o_lt, lt_false (Or.inl na)]
      go_wp2_with fail
      refine (isNaN_any b _).mono ?_
      rintro e w1 ⟨rfl, rfl⟩
      rw [nb]
      go_wp2_with fail
      refine (isNaN_any a _).mono ?_
      rintro e w1 ⟨rfl, rfl⟩
      rw [na]
      go_wp2_with fail
      all_goals (go_ret; exact ⟨by rw [HR.out]; rfl, rfl⟩)
    · rw [nb] at HR
      go_wp2_with fail
      all_goals (go_ret; exact ⟨by rw [HR.out]; rfl, rfl⟩)

theorem ordI_minus {a b : Nat} (na : isN a = false) (nb : isN b = false) (h1 : ¬ sk a < sk b) (h2 : ¬ sk b < sk a) :
    ordI a b = if minusB a && !minusB b then -1 else if minusB b && !minusB a then 1 else 0 := by
  unfold ordI minusB sideI
  rw [na, nb, if_neg (by simp), if_neg (by simp), if_neg h1, if_neg h2]
  unfold sk at h1 h2
  cases sa : sg a <;> cases sb : sg b <;> rw [sa, sb] at h1 h2 <;> simp only [if_true, if_false, Bool.false_eq_true] at h1 h2
  · have : decide (rg a = 0) = decide (rg b = 0) := decide_eq_decide.2 (by omega)
    simp
  · have e1 : decide (rg a = 0) = true := decide_eq_true (by omega)
    have e2 : decide (rg b = 0) = true := decide_eq_true (by omega)
    rw [e1, e2]; rfl
  · have e1 : decide (rg a = 0) = true := decide_eq_true (by omega)
    have e2 : decide (rg b = 0) = true := decide_eq_true (by omega)
    rw [e1, e2]; rfl
  · have : decide (rg a = 0) = decide (rg b = 0) := decide_eq_decide.2 (by omega)
    rw [this]
    cases decide (rg b = 0) <;> rfl

set_option maxRecDepth 100000 in
theorem rorder_any (a b : Nat) (w : World) :
    Calls Try.prog 20 #[.float .f64 a, .float .f64 b] w fun e w' => e = .returned (.int .i64 (ordI a b)) ∧ w' = w := by
  have HR : Hid (ordI a b = if isN a then (if isN b then 0 else 1) else if isN b then -1 else
      if sk a < sk b then -1 else if sk b < sk a then 1 else sideI a - sideI b) := rfl
  go_enter Try.func20, Try.ntmps20
  go_wp2_with fail
  refine (nan_any a _).mono ?_
  rintro e w1 ⟨rfl, rfl⟩
  cases na : isN a
  · rw [na] at HR
    go_wp2_with fail
    refine (nan_any a _).mono ?_
    rintro e w1 ⟨rfl, rfl⟩
    rw [na]
    go_wp2_with fail
    refine (nan_any b _).mono ?_
    rintro e w1 ⟨rfl, rfl⟩
    cases nb : isN b
    · rw [nb] at HR
      by_cases h1 : sk a < sk b
      · have o1 : (FloatKind.f64.format.order a b == some Ordering.lt) = true := by rw [o_lt]; unfold ltB; rw [na, nb, decide_eq_true h1]; rfl
        have HV : Hid (ordI a b = -1) := by show _ = _; rw [HR.out, if_pos h1]; rfl
        clear h1
        go_wp2_with fail
        all_goals (go_ret; exact ⟨by rw [HV.out]; rfl, rfl⟩)
      · have o1 : (FloatKind.f64.format.order a b == some Ordering.lt) = false := by rw [o_lt]; unfold ltB; rw [decide_eq_false h1, Bool.and_false]
        by_cases h2 : sk b < sk a
        · have o2 : (FloatKind.f64.format.order a b == some Ordering.gt) = true := by rw [o_gt]; unfold ltB; rw [na, nb, decide_eq_true h2]; rfl
          have HV : Hid (ordI a b = 1) := by show _ = _; rw [HR.out, if_neg h1, if_pos h2]; rfl
          clear h1 h2
          go_wp2_with fail
          all_goals (go_ret; exact ⟨by rw [HV.out]; rfl, rfl⟩)
        · have o2 : (FloatKind.f64.format.order a b == some Ordering.gt) = false := by rw [o_gt]; unfold ltB; rw [decide_eq_false h2, Bool.and_false]
          have HV : Hid (ordI a b = if minusB a && !minusB b then -1 else if minusB b && !minusB a then 1 else 0) := ordI_minus na nb h1 h2
          clear h1 h2
          go_wp2_with fail
          refine (minus_any a _).mono ?_
          rintro e w1 ⟨rfl, rfl⟩
          cases ma : minusB a
          · go_wp2_with fail
            refine (minus_any b _).mono ?_
            rintro e w1 ⟨rfl, rfl⟩
            cases mb : minusB b
            · rw [ma, mb] at HV
              go_wp2_with fail
              all_goals (go_ret; exact ⟨by rw [HV.out]; rfl, rfl⟩)
            · rw [ma, mb] at HV
              go_wp2_with fail
              refine (minus_any a _).mono ?_
              rintro e w1 ⟨rfl, rfl⟩
              rw [ma]
              go_wp2_with fail
              all_goals (go_ret; exact ⟨by rw [HV.out]; rfl, rfl⟩)
          · go_wp2_with fail
            refine (minus_any b _).mono ?_
            rintro e w1 ⟨rfl, rfl⟩
            cases mb : minusB b
            · rw [ma, mb] at HV
              go_wp2_with fail
              all_goals (go_ret; exact ⟨by rw [HV.out]; rfl, rfl⟩)
            · rw [ma, mb] at HV
              go_wp2_with fail
              refine (minus_any b _).mono ?_
              rintro e w1 ⟨rfl, rfl⟩
              rw [mb]
              go_wp2_with fail
              refine (minus_any a _).mono ?_
              rintro e w1 ⟨rfl, rfl⟩
              rw [ma]
              go_wp2_with fail
              all_goals (go_ret; exact ⟨by rw [HV.out]; rfl, rfl⟩)
    · rw [nb] at HR
      go_wp2_with fail
      all_goals (go_ret; exact ⟨by rw [HR.out]; rfl, rfl⟩)
  · rw [na] at HR
    go_wp2_with fail
    refine (nan_any b _).mono ?_
    rintro e w1 ⟨rfl, rfl⟩
    cases nb : isN b
    · rw [nb] at HR
      go_wp2_with fail
      refine (nan_any a _).mono ?_
      rintro e w1 ⟨rfl, rfl⟩
      rw [na]
      go_wp2_with fail
      all_goals (go_ret; exact ⟨by rw [HR.out]; rfl, rfl⟩)
    · rw [nb] at HR
      go_wp2_with fail
      all_goals (go_ret; exact ⟨by rw [HR.out]; rfl, rfl⟩)

set_option maxRecDepth 100000 in
theorem rwithin_any (a b t : Nat) (w : World) :
    Calls Try.prog 18 #[.float .f64 a, .float .f64 b, .float .f64 t] w fun e w' => e = .returned (.bool (wiB a b t)) ∧ Fr (fun _ => False) w w' := by
  have HR : Hid (wiB a b t = (tolB t && !isN a && !isN b && (decide (sk a = sk b) || decide (dist a b ≤ rg t)))) := rfl
  go_enter Try.func18, Try.ntmps18
  go_wp2_with fail
  refine (fits_any t _).mono ?_
  rintro e w1 ⟨rfl, rfl⟩
  cases ht : tolB t
  · rw [ht] at HR
    have ht' : leB 0 t = false := ht
    rw [ht']
    clear ht ht'
    go_wp2_with fail
    all_goals (go_ret; exact ⟨by rw [HR.out]; rfl, Fr.refl _ _⟩)
  · rw [ht] at HR
    have ht' : leB 0 t = true := ht
    have HTT : Hid (tolB t = true) := ht
    rw [ht']
    clear ht ht'
    go_wp2_with fail
    refine (nan_any a _).mono ?_
    rintro e w1 ⟨rfl, rfl⟩
    cases na : isN a
    · rw [na] at HR
      go_wp2_with fail
      refine (nan_any b _).mono ?_
      rintro e w1 ⟨rfl, rfl⟩
      cases nb : isN b
      · rw [nb] at HR
        by_cases hab : sk a = sk b
        · have h1 : (FloatKind.f64.format.order a b == some Ordering.eq) = true := by rw [o_eq]; unfold eqB; rw [na, nb, decide_eq_true hab]; rfl
          rw [decide_eq_true hab] at HR
          clear hab
          go_wp2_with fail
          all_goals (go_ret; exact ⟨by rw [HR.out]; rfl, Fr.refl _ _⟩)
        · have h1 : (FloatKind.f64.format.order a b == some Ordering.eq) = false := by rw [o_eq]; unfold eqB; rw [decide_eq_false hab, Bool.and_false]
          rw [decide_eq_false hab] at HR
          obtain ⟨d1, d2, d3⟩ := dist_spec na nb hab
          obtain ⟨d4, d5, d6⟩ := dist_spec nb na (fun e => hab e.symm)
          have hop : ∀ ty w, (binOp .sub ty (.float .f64 a) (.float .f64 b)).run Try.prog w = .ok (.float .f64 (wo (decide (sk a < sk b)) (dist a b))) w := fun ty w => run_float_arith w .sub ty .f64 a b _ d2
          have hop2 : ∀ ty w, (binOp .sub ty (.float .f64 b) (.float .f64 a)).run Try.prog w = .ok (.float .f64 (wo (decide (sk b < sk a)) (dist a b))) w := fun ty w => run_float_arith w .sub ty .f64 b a _ (by rw [← d3]; exact d5)
          have HL : Hid (∀ n, n = wo false (dist a b) ∨ n = wo true (dist a b) ∧ dist a b = 0 → (FloatKind.f64.format.order n t == some Ordering.lt || FloatKind.f64.format.order n t == some Ordering.eq) = wiB a b t) := by
            intro n hn
            have tr := tol_rg HTT.out
            have hs : sk n = dist a b := by
              rcases hn with e | ⟨e, e0⟩
              · rw [e, sk_wo d1]; rfl
              · rw [e, sk_wo d1, e0]; rfl
            have hnn : isN n = false := by
              rcases hn with e | ⟨e, e0⟩ <;> rw [e] <;> exact isN_no (by rw [rg_wo d1]; exact d1)
            rw [HR.out, o_le]
            unfold leB
            rw [hnn, isN_no tr.1, hs, tr.2]
            simp
          have HO : Hid ((FloatKind.f64.format.order (wo (decide (sk a < sk b)) (dist a b)) 0 == some Ordering.lt) = (decide (sk a < sk b) && decide (0 < dist a b))) := by
            show _ = _
            rw [o_lt]; unfold ltB
            rw [isN_no (by rw [rg_wo d1]; exact d1), sk_wo d1, sk_zero, show isN 0 = false from by decide]
            cases decide (sk a < sk b) <;> simp <;> omega
          clear d1 d2 d3 d4 d5 d6
          by_cases hl : sk a < sk b
          · have hl' : ¬ sk b < sk a := by omega
            rw [decide_eq_true hl] at hop HO
            rw [decide_eq_false hl'] at hop2
            clear hl hl' hab
            by_cases hd : 0 < dist a b
            · have h2 : (FloatKind.f64.format.order (wo true (dist a b)) 0 == some Ordering.lt) = true := by rw [HO.out, decide_eq_true hd]; rfl
              clear hd
              have h3 := HL.out _ (Or.inl rfl)
              go_wp2_with fail
              all_goals (go_ret; exact ⟨by rw [← h3]; rfl, Fr.refl _ _⟩)
            · have h2 : (FloatKind.f64.format.order (wo true (dist a b)) 0 == some Ordering.lt) = false := by rw [HO.out, decide_eq_false hd]; rfl
              have h3 := HL.out _ (Or.inr ⟨rfl, by omega⟩)
              clear hd
              go_wp2_with fail
              all_goals (go_ret; exact ⟨by rw [← h3]; rfl, Fr.refl _ _⟩)
          · rw [decide_eq_false hl] at hop HO
            have h2 : (FloatKind.f64.format.order (wo false (dist a b)) 0 == some Ordering.lt) = false := HO.out
            have h3 := HL.out _ (Or.inl rfl)
            clear hl hab hop2
            go_wp2_with fail
            all_goals (go_ret; exact ⟨by rw [← h3]; rfl, Fr.refl _ _⟩)
      · rw [nb] at HR
        go_wp2_with fail
        all_goals (go_ret; exact ⟨by rw [HR.out]; rfl, Fr.refl _ _⟩)
    · rw [na] at HR
      go_wp2_with fail
      all_goals (go_ret; exact ⟨by rw [HR.out]; rfl, Fr.refl _ _⟩)
end Go.Proofs.Ytnfmcdhllplgmaa
