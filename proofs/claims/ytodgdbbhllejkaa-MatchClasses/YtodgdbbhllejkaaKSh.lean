/- What Share of both answers; 'wakes'. -/
import Derived.Test.YtodgdbbhllejkaaKSd
import Derived.Test.YtodgdbbhllejkaaKFj
namespace Go.Proofs.Ytodgdbbhllejkaa
open Go.RowKit Ieee

/-- May a number be shared? -/
def exB (n : Int) : Bool := decide (-9007199254740992 ≤ n) && decide (n ≤ 9007199254740992)
/-- x is the share of n and d. -/
def ShP (n d : Int) (x : Nat) : Prop :=
  x < 18446744073709551616 ∧ (floatBits .quo .f64 (fi n) (fi d) = some x ∨ floatBits .quo .f64 (fi n) (fi d) = none ∧ isN x = true)

theorem sameB_self (x : Nat) : sameB x x = true := by
  unfold sameB eqB
  cases h : isN x <;> simp
theorem sameB_nan {x y : Nat} (hx : isN x = true) (hy : isN y = true) : sameB x y = true := by
  unfold sameB; rw [hx, hy]; rfl
theorem ShP.same {n d : Int} {x y : Nat} (hx : ShP n d x) (hy : ShP n d y) : sameB x y = true := by
  rcases hx.2 with h | ⟨h, h'⟩ <;> rcases hy.2 with k | ⟨k, k'⟩
  · rw [h] at k; cases k; exact sameB_self x
  · rw [h] at k; cases k
  · rw [h] at k; cases k
  · exact sameB_nan h' k'

set_option maxRecDepth 100000 in
theorem isExact_any (n : Int) (w : World) :
    Calls Try.prog 57 #[.int .i64 n] w fun e w' => e = .returned (.bool (exB n)) ∧ w' = w := by
  have HR : Hid (exB n = (decide (-9007199254740992 ≤ n) && decide (n ≤ 9007199254740992))) := rfl
  go_enter Try.func57, Try.ntmps57
  by_cases h : -9007199254740992 ≤ n
  · rw [decide_eq_true h] at HR
    have hd : decide (-9007199254740992 ≤ n) = true := decide_eq_true h
    clear h
    go_wp2_with fail
    all_goals (go_ret; exact ⟨by rw [HR.out]; rfl, rfl⟩)
  · rw [decide_eq_false h] at HR
    have hd : decide (-9007199254740992 ≤ n) = false := decide_eq_false h
    clear h
    go_wp2_with fail
    all_goals (go_ret; exact ⟨by rw [HR.out]; rfl, rfl⟩)

set_option maxRecDepth 100000 in
theorem share_ok (n d : Int) (hn : exB n = true) (hd : exB d = true) (w : World) :
    Calls Try.prog 42 #[.int .i64 n, .int .i64 d] w fun e w' => ∃ x, e = .returned (.tuple #[.float .f64 x, .int .i64 0]) ∧ ShP n d x ∧ Fr (fun _ => False) w w' := by
  cases hx : floatBits .quo .f64 (fi n) (fi d) with
  | some r =>
    have hop : ∀ ty w, (binOp .quo ty (.float .f64 (floatOfInt .f64 n)) (.float .f64 (floatOfInt .f64 d))).run Try.prog w = .ok (.float .f64 r) w := fun ty w => run_float_arith w .quo ty .f64 _ _ r hx
    have HS : Hid (ShP n d r) := ⟨by have := floatBits_wf hx; simpa [Lit.wf] using this, Or.inl hx⟩
    clear hx
    go_enter Try.func42, Try.ntmps42
    go_wp2_with fail
    refine (isExact_any n _).mono ?_
    rintro e w1 ⟨rfl, rfl⟩
    rw [hn]
    go_wp2_with fail
    refine (isExact_any d _).mono ?_
    rintro e w1 ⟨rfl, rfl⟩
    rw [hd]
    go_wp2_with fail
    all_goals (go_ret2; exact ⟨r, rfl, HS.out, by first | exact Fr.refl _ _ | exact (Fr.refl _ _).drew⟩)
  | none =>
    have hop : ∀ ty w, (binOp .quo ty (.float .f64 (floatOfInt .f64 n)) (.float .f64 (floatOfInt .f64 d))).run Try.prog w = .ok (.float .f64 (nanOf w (floatOfInt .f64 n) (floatOfInt .f64 d))) w.drew := fun ty w => run_float_nan w .quo (by simp) ty _ _ hx
    have HS : Hid (∀ w, ShP n d (nanOf w (floatOfInt .f64 n) (floatOfInt .f64 d))) := fun w => ⟨(nanOf_nan _ _ _).2, Or.inr ⟨hx, isN_of (nanOf_nan _ _ _).1⟩⟩
    clear hx
    go_enter Try.func42, Try.ntmps42
    go_wp2_with fail
    refine (isExact_any n _).mono ?_
    rintro e w1 ⟨rfl, rfl⟩
    rw [hn]
    go_wp2_with fail
    refine (isExact_any d _).mono ?_
    rintro e w1 ⟨rfl, rfl⟩
    rw [hd]
    go_wp2_with fail
    all_goals (go_ret2; exact ⟨_, rfl, HS.out _, by first | exact (Fr.refl _ _).drew | exact (Fr.refl _ _).drew.drew⟩)

set_option maxRecDepth 100000 in
theorem share_bad (n d : Int) (h : exB n = false ∨ exB d = false) (w : World) :
    Calls Try.prog 42 #[.int .i64 n, .int .i64 d] w fun e w' => e = .returned (.tuple #[.float .f64 0, .int .i64 100]) ∧ Fr (fun _ => False) w w' := by
  have HH : Hid (exB n = false ∨ exB d = false) := h
  clear h
  go_enter Try.func42, Try.ntmps42
  go_wp2_with fail
  refine (isExact_any n _).mono ?_
  rintro e w1 ⟨rfl, rfl⟩
  cases hn : exB n
  · go_wp2_with fail
    all_goals (go_ret2; exact ⟨rfl, Fr.refl _ _⟩)
  · have hd : exB d = false := by rcases HH.out with h | h; (rw [hn] at h; cases h); exact h
    clear HH
    go_wp2_with fail
    refine (isExact_any d _).mono ?_
    rintro e w1 ⟨rfl, rfl⟩
    rw [hd]
    go_wp2_with fail
    all_goals (go_ret2; exact ⟨rfl, Fr.refl _ _⟩)

theorem div_by_zero {n : Int} (hn : exB n = true) (h0 : n ≠ 0) : floatBits .quo .f64 (fi n) (fi 0) = some (wo (decide (n < 0)) infR) := by
  have hb : n.natAbs ≤ 9007199254740992 := by
    unfold exB at hn
    rw [Bool.and_eq_true, decide_eq_true_iff, decide_eq_true_iff] at hn
    omega
  obtain ⟨h1, h2, h3⟩ := fi_spec hb
  have hr : rg (fi n) ≠ 0 := by
    intro e
    rw [e] at h2
    have : 0 < n.natAbs * 2 ^ kE := Nat.mul_pos (by omega) (Nat.two_pow_pos _)
    rw [← h2] at this
    exact absurd this (by decide)
  have := div_zero (a := fi n) (x := fi 0) h1 hr (by decide)
  rw [h3, show sg (fi 0) = false from by decide, Bool.xor_false] at this
  exact this

set_option maxRecDepth 100000 in
theorem divide_ok (n d : Int) (hn : exB n = true) (w : World) :
    Calls Try.prog 45 #[.int .i64 n, .int .i64 d] w fun e w' => ∃ x, e = .returned (.float .f64 x) ∧ ShP n d x ∧ Fr (fun _ => False) w w' := by
  have HNN : Hid (exB n = true) := hn
  clear hn
  by_cases hz : d = 0
  · subst hz
    rcases Int.lt_trichotomy n 0 with h | h | h
    · have HS : Hid (ShP n 0 (wo true infR)) := by
        refine ⟨by decide, Or.inl ?_⟩
        rw [div_by_zero HNN.out (by omega), decide_eq_true h]
      have h1 : decide (0 < n) = false := decide_eq_false (by omega)
      have h2 : decide (n < 0) = true := decide_eq_true h
      have hop : ∀ ty w, (binOp .quo ty (.float .f64 13830554455654793216) (.float .f64 0)).run Try.prog w = .ok (.float .f64 (wo true infR)) w := fun ty w => run_float_arith w .quo ty .f64 _ _ _ (div_zero (a := 13830554455654793216) (x := 0) (by decide) (by decide) (by decide))
      clear h
      go_enter Try.func45, Try.ntmps45
      go_wp2_with fail
      all_goals (go_ret; exact ⟨_, rfl, HS.out, Fr.refl _ _⟩)
    · subst h
      have hx : floatBits .quo .f64 0 0 = none := by decide
      have hop : ∀ ty w, (binOp .quo ty (.float .f64 0) (.float .f64 0)).run Try.prog w = .ok (.float .f64 (nanOf w 0 0)) w.drew := fun ty w => run_float_nan w .quo (by simp) ty _ _ hx
      have HS : Hid (∀ w, ShP 0 0 (nanOf w 0 0)) := fun w => ⟨(nanOf_nan _ _ _).2, Or.inr ⟨by rw [show fi 0 = 0 from by decide]; exact hx, isN_of (nanOf_nan _ _ _).1⟩⟩
      clear hx
      go_enter Try.func45, Try.ntmps45
      go_wp2_with fail
      all_goals (go_ret; exact ⟨_, rfl, HS.out _, (Fr.refl _ _).drew⟩)
    · have HS : Hid (ShP n 0 (wo false infR)) := by
        refine ⟨by decide, Or.inl ?_⟩
        rw [div_by_zero HNN.out (by omega), decide_eq_false (by omega)]
      have h1 : decide (0 < n) = true := decide_eq_true (by omega)
      have hop : ∀ ty w, (binOp .quo ty (.float .f64 4607182418800017408) (.float .f64 0)).run Try.prog w = .ok (.float .f64 (wo false infR)) w := fun ty w => run_float_arith w .quo ty .f64 _ _ _ (div_zero (a := 4607182418800017408) (x := 0) (by decide) (by decide) (by decide))
      clear h
      go_enter Try.func45, Try.ntmps45
      go_wp2_with fail
      all_goals (go_ret; exact ⟨_, rfl, HS.out, Fr.refl _ _⟩)
  · have hz' : decide (d = 0) = false := decide_eq_false hz
    have hz2 : (d == 0) = false := by simpa using hz
    cases hx : floatBits .quo .f64 (fi n) (fi d) with
    | some r =>
      have hop : ∀ ty w, (binOp .quo ty (.float .f64 (floatOfInt .f64 n)) (.float .f64 (floatOfInt .f64 d))).run Try.prog w = .ok (.float .f64 r) w := fun ty w => run_float_arith w .quo ty .f64 _ _ r hx
      have HS : Hid (ShP n d r) := ⟨by have := floatBits_wf hx; simpa [Lit.wf] using this, Or.inl hx⟩
      clear hx
      go_enter Try.func45, Try.ntmps45
      go_wp2_with fail
      all_goals (go_ret; exact ⟨_, rfl, HS.out, Fr.refl _ _⟩)
    | none =>
      have hop : ∀ ty w, (binOp .quo ty (.float .f64 (floatOfInt .f64 n)) (.float .f64 (floatOfInt .f64 d))).run Try.prog w = .ok (.float .f64 (nanOf w (floatOfInt .f64 n) (floatOfInt .f64 d))) w.drew := fun ty w => run_float_nan w .quo (by simp) ty _ _ hx
      have HS : Hid (∀ w, ShP n d (nanOf w (floatOfInt .f64 n) (floatOfInt .f64 d))) := fun w => ⟨(nanOf_nan _ _ _).2, Or.inr ⟨hx, isN_of (nanOf_nan _ _ _).1⟩⟩
      clear hx
      go_enter Try.func45, Try.ntmps45
      go_wp2_with fail
      all_goals (go_ret; exact ⟨_, rfl, HS.out _, (Fr.refl _ _).drew⟩)

theorem exB_cases (n : Int) : exB n = true ∧ decide (n < -9007199254740992) = false ∧ decide (9007199254740992 < n) = false ∨ exB n = false ∧ (decide (n < -9007199254740992) = true ∨ decide (n < -9007199254740992) = false ∧ decide (9007199254740992 < n) = true) := by
  unfold exB
  by_cases h1 : n < -9007199254740992
  · right
    exact ⟨by rw [decide_eq_false (by omega), Bool.false_and], Or.inl (decide_eq_true h1)⟩
  · by_cases h2 : 9007199254740992 < n
    · right
      exact ⟨by rw [decide_eq_false (p := n ≤ 9007199254740992) (by omega), Bool.and_false], Or.inr ⟨decide_eq_false h1, decide_eq_true h2⟩⟩
    · left
      exact ⟨by rw [decide_eq_true (by omega), decide_eq_true (by omega)]; rfl, decide_eq_false h1, decide_eq_false h2⟩