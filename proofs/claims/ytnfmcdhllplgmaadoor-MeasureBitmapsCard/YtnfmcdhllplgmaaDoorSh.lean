/- What Share of both answers; 'wakes'. -/
import Derived.Test.YtnfmcdhllplgmaaDoorSd
import Derived.Test.YtnfmcdhllplgmaaDoorFj
namespace Go.Proofs.YtnfmcdhllplgmaaDoor
open Go.RowKit Ieee

/-- May a number be shared? -/
def exB (n : Int) : Bool := decide (-9007199254740992 ≤ n) && decide (n ≤ 9007199254740992)
/-- x is the share of n and d. -/
def ShP (n d : Int) (x : Nat) : Prop :=
  x < 18446744073709551616 ∧ (floatBits .quo .f64 (fi n) (fi d) = some x ∨ floatBits .quo .f64 (fi n) (fi d) = none ∧ isN x = true)

theorem sameB_self (x : Nat) : sameB x x = true := by
  unfold sameB eqB
  cases h : isN x <;> simp
theorem sameB_nan {x y : Nat} (hx : isN x = true) (hy : isN y = true) : sameB x y = true := by
  unfold sameB; rw [hx, hy]; rfl
theorem ShP.same {n d : Int} {x y : Nat} (hx : ShP n d x) (hy : ShP n d y) : sameB x y = true := by
  rcases hx.2 with h | ⟨h, h'⟩ <;> rcases hy.2 with k | ⟨k, k'⟩
  · rw [h] at k; cases k; exact sameB_self x
  · rw [h] at k; cases k
  · rw [h] at k; cases k
  · exact sameB_nan h' k'

set_option maxRecDepth 100000 in
theorem isExact_any (n : Int) (w : World) :
    Calls Tryd.prog 34 #[.int .i64 n] w fun e w' => e = .returned (.bool (exB n)) ∧ w' = w := by
  have HR : Hid (exB n = (decide (-9007199254740992 ≤ n) && decide (n ≤ 9007199254740992))) := rfl
  go_enter Tryd.func34, Tryd.ntmps34
  by_cases h : -9007199254740992 ≤ n
  · rw [decide_eq_true h] at HR
    have hd : decide (-9007199254740992 ≤ n) = true := decide_eq_true h
    clear h
    go_wp2_with fail
    all_goals (go_ret; exact ⟨by rw [HR.out]; rfl, rfl⟩)
  · rw [decide_eq_false h] at HR
    have hd : decide (-9007199254740992 ≤ n) = false := decide_eq_false h
    clear h
    go_wp2_with fail
    all_goals (go_ret; exact ⟨by rw [HR.out]; rfl, rfl⟩)

set_option maxRecDepth 100000 in
theorem share_ok (n d : Int) (hn : exB n = true) (hd : exB d = true) (w : World) :
    Calls Tryd.prog 18 #[.int .i64 n, .int .i64 d] w fun e w' => ∃ x, e = .returned (.tuple #[.float .f64 x, .int .i64 0]) ∧ ShP n d x ∧ Fr (fun _ => False) w w' := by
  cases hx : floatBits .quo .f64 (fi n) (fi d) with
  | some r =>
    have hop : ∀ ty w, (binOp .quo ty (.float .f64 (floatOfInt .f64 n)) (.float .f64 (floatOfInt .f64 d))).run Tryd.prog w = .ok (.float .f64 r) w := fun ty w => run_float_arith w .quo ty .f64 _ _ r hx
    have HS : Hid (ShP n d r) := ⟨by have := floatBits_wf hx; simpa [Lit.wf] using this, Or.inl hx⟩
    clear hx
    go_enter Tryd.func18, Tryd.ntmps18
    go_wp2_with fail
    refine (isExact_any n _).mono ?_
    rintro e w1 ⟨rfl, rfl⟩
    rw [hn]
    go_wp2_with fail
    refine (isExact_any d _).mono ?_
    rintro e w1 ⟨rfl, rfl⟩
    rw [hd]
    go_wp2_with fail
    all_goals (go_ret2; exact ⟨r, rfl, HS.out, by first | exact Fr.refl _ _ | exact (Fr.refl _ _).drew⟩)
  | none =>
    have hop : ∀ ty w, (binOp .quo ty (.float .f64 (floatOfInt .f64 n)) (.float .f64 (floatOfInt .f64 d))).run Tryd.prog w = .ok (.float .f64 (nanOf w (floatOfInt .f64 n) (floatOfInt .f64 d))) w.drew := fun ty w => run_float_nan w .quo (by simp) ty _ _ hx
    have HS : Hid (∀ w, ShP n d (nanOf w (floatOfInt .f64 n) (floatOfInt .f64 d))) := fun w => ⟨(nanOf_nan _ _ _).2, Or.inr ⟨hx, isN_of (nanOf_nan _ _ _).1⟩⟩
    clear hx
    go_enter Tryd.func18, Tryd.ntmps18
    go_wp2_with fail
    refine (isExact_any n _).mono ?_
    rintro e w1 ⟨rfl, rfl⟩
    rw [hn]
    go_wp2_with fail
    refine (isExact_any d _).mono ?_
    rintro e w1 ⟨rfl, rfl⟩
    rw [hd]
    go_wp2_with fail
    all_goals (go_ret2; exact ⟨_, rfl, HS.out _, by first | exact (Fr.refl _ _).drew | exact (Fr.refl _ _).drew.drew⟩)

set_option maxRecDepth 100000 in
theorem share_bad (n d : Int) (h : exB n = false ∨ exB d = false) (w : World) :
    Calls Tryd.prog 18 #[.int .i64 n, .int .i64 d] w fun e w' => e = .returned (.tuple #[.float .f64 0, .int .i64 100]) ∧ Fr (fun _ => False) w w' := by
  have HH : Hid (exB n = false ∨ exB d = false) := h
  clear h
  go_enter Tryd.func18, Tryd.ntmps18
  go_wp2_with fail
  refine (isExact_any n _).mono ?_
  rintro e w1 ⟨rfl, rfl⟩
  cases hn : exB n
  · go_wp2_with fail
    all_goals (go_ret2; exact ⟨rfl, Fr.refl _ _⟩)
  · have hd : exB d = false := by rcases HH.out with h | h; (rw [hn] at h; cases h); exact h
    clear HH
    go_wp2_with fail
    refine (isExact_any d _).mono ?_
    rintro e w1 ⟨rfl, rfl⟩
    rw [hd]
    go_wp2_with fail
    all_goals (go_ret2; exact ⟨rfl, Fr.refl _ _⟩)

theorem div_by_zero {n : Int} (hn : exB n = true) (h0 : n ≠ 0) : floatBits .quo .f64 (fi n) (fi 0) = some (wo (decide (n < 0)) infR) := by
  have hb : n.natAbs ≤ 9007199254740992 := by
    unfold exB at hn
    rw [Bool.and_eq_true, decide_eq_true_iff, decide_eq_true_iff] at hn
    omega
  obtain ⟨h1, h2, h3⟩ := fi_spec hb
  have hr : rg (fi n) ≠ 0 := by
    intro e
    rw [e] at h2
    have : 0 < n.natAbs * 2 ^ kE := Nat.mul_pos (by omega) (Nat.two_pow_pos _)
    rw [← h2] at this
    exact absurd this (by decide)
  have := div_zero (a := fi n) (x := fi 0) h1 hr (by decide)
  rw [h3, show sg (fi 0) = false from by decide, Bool.xor_false] at this
  exact this

set_option maxRecDepth 100000 in
theorem divide_ok (n d : Int) (hn : exB n = true) (w : World) :
    Calls Tryd.prog 24 #[.int .i64 n, .int .i64 d] w fun e w' => ∃ x, e = .returned (.float .f64 x) ∧ ShP n d x ∧ Fr (fun _ => False) w w' := by
  have HNN : Hid (exB n = true) := hn
  clear hn
  by_cases hz : d = 0
  · subst hz
    rcases Int.lt_trichotomy n 0 with h | h | h
    · have HS : Hid (ShP n 0 (wo true infR)) := by
        refine ⟨by decide, Or.inl ?_⟩
        rw [div_by_zero HNN.out (by omega), decide_eq_true h]
      have h1 : decide (0 < n) = false := decide_eq_false (by omega)
      have h2 : decide (n < 0) = true := decide_eq_true h
      have hop : ∀ ty w, (binOp .quo ty (.float .f64 13830554455654793216) (.float .f64 0)).run Tryd.prog w = .ok (.float .f64 (wo true infR)) w := fun ty w => run_float_arith w .quo ty .f64 _ _ _ (div_zero (a := 13830554455654793216) (x := 0) (by decide) (by decide) (by decide))
      clear h
      go_enter Tryd.func24, Tryd.ntmps24
      go_wp2_with fail
      all_goals (go_ret; exact ⟨_, rfl, HS.out, Fr.refl _ _⟩)
    · subst h
      have hx : floatBits .quo .f64 0 0 = none := by decide
      have hop : ∀ ty w, (binOp .quo ty (.float .f64 0) (.float .f64 0)).run Tryd.prog w = .ok (.float .f64 (nanOf w 0 0)) w.drew := fun ty w => run_float_nan w .quo (by simp) ty _ _ hx
      have HS : Hid (∀ w, ShP 0 0 (nanOf w 0 0)) := fun w => ⟨(nanOf_nan _ _ _).2, Or.inr ⟨by rw [show fi 0 = 0 from by decide]; exact hx, isN_of (nanOf_nan _ _ _).1⟩⟩
      clear hx
      go_enter Tryd.func24, Tryd.ntmps24
      go_wp2_with fail
      all_goals (go_ret; exact ⟨_, rfl, HS.out _, (Fr.refl _ _).drew⟩)
    · have HS : Hid (ShP n 0 (wo false infR)) := by
        refine ⟨by decide, Or.inl ?_⟩
        rw [div_by_zero HNN.out (by omega), decide_eq_false (by omega)]
      have h1 : decide (0 < n) = true := decide_eq_true (by omega)
      have hop : ∀ ty w, (binOp .quo ty (.float .f64 4607182418800017408) (.float .f64 0)).run Tryd.prog w = .ok (.float .f64 (wo false infR)) w := fun ty w => run_float_arith w .quo ty .f64 _ _ _ (div_zero (a := 4607182418800017408) (x := 0) (by decide) (by decide) (by decide))
      clear h
      go_enter Tryd.func24, Tryd.ntmps24
      go_wp2_with fail
      all_goals (go_ret; exact ⟨_, rfl, HS.out, Fr.refl _ _⟩)
  · have hz' : decide (d = 0) = false := decide_eq_false hz
    have hz2 : (d == 0) = false := by simpa using hz
    cases hx : floatBits .quo .f64 (fi n) (fi d) with
    | some r =>
      have hop : ∀ ty w, (binOp .quo ty (.float .f64 (floatOfInt .f64 n)) (.float .f64 (floatOfInt .f64 d))).run Tryd.prog w = .ok (.float .f64 r) w := fun ty w => run_float_arith w .quo ty .f64 _ _ r hx
      have HS : Hid (ShP n d r) := ⟨by have := floatBits_wf hx; simpa [Lit.wf] using this, Or.inl hx⟩
      clear hx
      go_enter Tryd.func24, Tryd.ntmps24
      go_wp2_with fail
      all_goals (go_ret; exact ⟨_, rfl, HS.out, Fr.refl _ _⟩)
    | none =>
      have hop : ∀ ty w, (binOp .quo ty (.float .f64 (floatOfInt .f64 n)) (.float .f64 (floatOfInt .f64 d))).run Tryd.prog w = .ok (.float .f64 (nanOf w (floatOfInt .f64 n) (floatOfInt .f64 d))) w.drew := fun ty w => run_float_nan w .quo (by simp) ty _ _ hx
      have HS : Hid (∀ w, ShP n d (nanOf w (floatOfInt .f64 n) (floatOfInt .f64 d))) := fun w => ⟨(nanOf_nan _ _ _).2, Or.inr ⟨hx, isN_of (nanOf_nan _ _ _).1⟩⟩
      clear hx
      go_enter Tryd.func24, Tryd.ntmps24
      go_wp2_with fail
      all_goals (go_ret; exact ⟨_, rfl, HS.out _, (Fr.refl _ _).drew⟩)

theorem exB_cases (n : Int) : exB n = true ∧ decide (n < -9007199254740992) = false ∧ decide (9007199254740992 < n) = false ∨ exB n = false ∧ (decide (n < -9007199254740992) = true ∨ decide (n < -9007199254740992) = false ∧ decide (9007199254740992 < n) = true) := by
  unfold exB
  by_cases h1 : n < -9007199254740992
  · right
    exact ⟨by rw [decide_eq_false (by omega), Bool.false_and], Or.inl (decide_eq_true h1)⟩
  · by_cases h2 : 9007199254740992 < n
    · right
      exact ⟨by rw [decide_eq_false (p := n ≤ 9007199254740992) (by omega), Bool.and_false], Or.inr ⟨decide_eq_false h1, decide_eq_true h2⟩⟩
    · left
      exact ⟨by rw [decide_eq_true (by omega), decide_eq_true (by omega)]; rfl, decide_eq_false h1, decide_eq_false h2⟩

set_option maxRecDepth 100000 in
theorem rshare_ok (n d : Int) (hn : exB n = true) (hd : exB d = true) (w : World) :
    Calls Tryd.prog 10 #[.int .i64 n, .int .i64 d] w fun e w' => ∃ x, e = .returned (.tuple #[.float .f64 x, .int .i64 0]) ∧ ShP n d x ∧ Fr (fun _ => False) w w' := by
  have HD : Hid (∀ w, Calls Tryd.prog 24 #[.int .i64 n, .int .i64 d] w fun e w' => ∃ x, e = .returned (.float .f64 x) ∧ ShP n d x ∧ Fr (fun _ => False) w w') := fun w => divide_ok n d hn w
  rcases exB_cases n with ⟨_, a1, a2⟩ | ⟨h, _⟩
  · rcases exB_cases d with ⟨_, b1, b2⟩ | ⟨h, _⟩
    · clear hn hd
      go_enter Tryd.func10, Tryd.ntmps10
      go_wp2_with fail
      refine (HD.out _).mono ?_
      rintro e w1 ⟨x, rfl, hs, hf⟩
      have HS : Hid (ShP n d x ∧ Fr (fun _ => False) w w1) := ⟨hs, hf⟩
      clear hs hf
      go_wp2_with fail
      all_goals (go_ret2; exact ⟨_, rfl, HS.out⟩)
    · rw [hd] at h; cases h
  · rw [hn] at h; cases h

set_option maxRecDepth 100000 in
theorem rshare_bad (n d : Int) (h : exB n = false ∨ exB d = false) (w : World) :
    Calls Tryd.prog 10 #[.int .i64 n, .int .i64 d] w fun e w' => e = .returned (.tuple #[.float .f64 0, .int .i64 100]) ∧ Fr (fun _ => False) w w' := by
  rcases exB_cases n with ⟨hn, a1, a2⟩ | ⟨_, a1 | ⟨a1, a2⟩⟩
  · rcases exB_cases d with ⟨hd, b1, b2⟩ | ⟨_, b1 | ⟨b1, b2⟩⟩
    · rw [hn, hd] at h; rcases h with h | h <;> cases h
    · clear h hn
      go_enter Tryd.func10, Tryd.ntmps10
      go_wp2_with fail
      all_goals (go_ret2; exact ⟨rfl, Fr.refl _ _⟩)
    · clear h hn
      go_enter Tryd.func10, Tryd.ntmps10
      go_wp2_with fail
      all_goals (go_ret2; exact ⟨rfl, Fr.refl _ _⟩)
  · clear h
    go_enter Tryd.func10, Tryd.ntmps10
    go_wp2_with fail
    all_goals (go_ret2; exact ⟨rfl, Fr.refl _ _⟩)
  · clear h
    go_enter Tryd.func10, Tryd.ntmps10
    go_wp2_with fail
    all_goals (go_ret2; exact ⟨rfl, Fr.refl _ _⟩)

set_option maxRecDepth 100000 in
theorem wakes_any (w : World) :
    Calls Tryd.prog 16 #[] w fun e w' => e = .returned (.bool true) ∧ Fr (fun _ => False) w w' := by
  go_enter Tryd.func16, Tryd.ntmps16
  go_wp2_with fail
  refine (share_ok 1 0 rfl rfl _).mono ?_
  rintro e w1 ⟨x, rfl, hx, hf1⟩
  obtain rfl : x = wo false infR := by
    rcases hx.2 with h | ⟨h, _⟩
    · rw [div_by_zero rfl (by decide)] at h; cases h; rfl
    · rw [div_by_zero rfl (by decide)] at h; cases h
  have H1 : Hid (Fr (fun _ => False) w w1) := hf1
  clear hx hf1
  go_wp2_with fail
  refine (share_ok 0 0 rfl rfl _).mono ?_
  rintro e w2 ⟨y, rfl, hy, hf2⟩
  have ny : (FloatKind.f64.format.order y y != some Ordering.eq) = true := by
    rw [o_ne, eqB_self, Bool.not_not]
    rcases hy.2 with h | ⟨_, h⟩
    · have : floatBits .quo .f64 (fi 0) (fi 0) = none := by decide
      rw [this] at h; cases h
    · exact h
  have H2 : Hid (Fr (fun _ => False) w w2) := H1.out.trans hf2 (fun _ _ h => h)
  clear hy hf2 H1
  go_wp2_with fail
  refine (share_ok 3 4 rfl rfl _).mono ?_
  rintro e w3 ⟨z, rfl, hz, hf3⟩
  obtain rfl : z = 4604930618986332160 := by
    have e : floatBits .quo .f64 (fi 3) (fi 4) = some 4604930618986332160 := by decide +kernel
    rcases hz.2 with h | ⟨h, _⟩
    · rw [e] at h; cases h; rfl
    · rw [e] at h; cases h
  have H3 : Hid (Fr (fun _ => False) w w3) := H2.out.trans hf3 (fun _ _ h => h)
  clear hz hf3 H2
  have c1 : (FloatKind.f64.format.order (wo false infR) 4607182418800017408 == some Ordering.gt) = true := by rw [o_gt]; decide
  have c2 : ∀ ty w, (binOp .sub ty (.float .f64 (wo false infR)) (.float .f64 4607182418800017408)).run Tryd.prog w = .ok (.float .f64 (wo false infR)) w := fun ty w => run_float_arith w .sub ty .f64 _ _ _ (by decide +kernel)
  have c3 : (FloatKind.f64.format.order (wo false infR) (wo false infR) == some Ordering.eq) = true := by rw [o_eq]; decide
  have c4 : (FloatKind.f64.format.order 4604930618986332160 4604930618986332160 == some Ordering.eq) = true := by rw [o_eq]; decide
  generalize wo false infR = inf at *
  go_wp2_with fail
  refine (within_any _ _ _ (by decide) (by decide) _).mono ?_
  rintro e w4 ⟨rfl, hf4⟩
  have hw : wiB 4607182418800017408 4609434218613702656 4602678819172646912 = true := by decide +kernel
  rw [hw]
  have H4 : Hid (Fr (fun _ => False) w w4) := H3.out.trans hf4 (fun _ _ h => h)
  clear hf4 H3
  go_wp2_with fail
  all_goals (go_ret; exact ⟨rfl, H4.out⟩)
end Go.Proofs.YtnfmcdhllplgmaaDoor
