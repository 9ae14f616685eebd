/- Near bitmaps: the share of unlike pixels against a tolerance; classes, as plain lists. -/
import Derived.Test.YtodgdbbhllejkaaK5
namespace Go.Proofs.Ytodgdbbhllejkaa
open Go.RowKit Ieee

/-- The share of n and d, as a word. -/
def shW (n d : Nat) : Nat := (floatBits .quo .f64 (fi (n : Int)) (fi (d : Int))).getD 0
theorem pow_kE : 1048576 ≤ 2 ^ kE := by
  have h1 : (1048576 : Nat) = 2 ^ 20 := by decide
  rw [h1]
  exact Nat.pow_le_pow_right (by decide) (by unfold kE; decide)
theorem sh_spec {n d : Nat} (hn : n ≤ 1048576) (h1 : 1 ≤ d) (hd : d ≤ 1048576) :
    ∃ r, r ≤ infR ∧ floatBits .quo .f64 (fi (n : Int)) (fi (d : Int)) = some (wo false r) ∧ (r = 0 ↔ n = 0) := by
  obtain ⟨a1, a2, a3⟩ := fi_spec (n := (n : Int)) (by omega)
  obtain ⟨b1, b2, b3⟩ := fi_spec (n := (d : Int)) (by omega)
  have hp := pow_kE
  have hb0 : rg (fi (d : Int)) ≠ 0 := by
    intro e
    rw [e] at b2
    have hv0 : vl 0 = 0 := by decide +kernel
    rw [hv0] at b2
    have : 0 < (d : Int).natAbs * 2 ^ kE := Nat.mul_pos (by omega) (by omega)
    omega
  obtain ⟨r, e1, e2⟩ := div_spec a1 b1 hb0
  rw [a3, b3, decide_eq_false (by omega), decide_eq_false (by omega)] at e1
  rw [a2, b2] at e2
  simp only [Int.natAbs_natCast] at e2
  generalize hK : 2 ^ kE = K at *
  have hq : 0 < d * K := Nat.mul_pos h1 (by omega)
  refine ⟨r, e2.le, e1, fun h => ?_, fun h => ?_⟩
  · rcases Nat.eq_zero_or_pos n with h0 | h0
    · exact h0
    · exfalso
      have hv1 : vl 1 = 1 := by decide +kernel
      have hx := IsRd.exact (r := 1) (by decide +kernel)
      rw [hv1] at hx
      have := hx.mono e2 (by omega) hq (by
        rw [Nat.one_mul, Nat.mul_one, Nat.mul_assoc]
        exact Nat.le_trans (Nat.mul_le_mul_right K (by omega)) (Nat.le_mul_of_pos_left (K * K) h0))
      omega
  · have hv0 : vl 0 = 0 := by decide +kernel
    have hx := IsRd.exact (r := 0) (by decide +kernel)
    rw [hv0] at hx
    exact e2.uniq hx hq (by omega) (by rw [h]; simp)
theorem shP_eq {n d x : Nat} (hn : n ≤ 1048576) (h1 : 1 ≤ d) (hd : d ≤ 1048576) (h : ShP (n : Int) (d : Int) x) : x = shW n d := by
  obtain ⟨r, _, e, _⟩ := sh_spec hn h1 hd
  unfold shW
  rcases h.2 with k | ⟨k, _⟩
  · rw [k]; rfl
  · rw [k] at e; cases e
theorem sh_sk {n d : Nat} (hn : n ≤ 1048576) (h1 : 1 ≤ d) (hd : d ≤ 1048576) : isN (shW n d) = false ∧ 0 ≤ sk (shW n d) ∧ sk (shW n d) ≤ infR ∧ (sk (shW n d) = 0 ↔ n = 0) := by
  obtain ⟨r, hr, e, h0⟩ := sh_spec hn h1 hd
  unfold shW
  rw [e]
  show isN (wo false r) = false ∧ 0 ≤ sk (wo false r) ∧ sk (wo false r) ≤ infR ∧ (sk (wo false r) = 0 ↔ n = 0)
  have e1 : rg (wo false r) = r := rg_wo hr
  have e2 : sg (wo false r) = false := sg_wo hr
  have e3 : sk (wo false r) = (r : Int) := by unfold sk; rw [e1, e2]; rfl
  refine ⟨isN_no (by rw [e1]; exact hr), by rw [e3]; omega, by rw [e3]; omega, ?_⟩
  rw [e3, ← h0]; omega

/-- Is b near a's class: one size, and the share that is unlike at most t. -/
def nrB (t : Nat) (a b : Bp) : Bool :=
  decide (a.x = b.x ∧ a.y = b.y) && leB (shW (unl a.x.toNat a.y.toNat (pixOf a.x.toNat a.l) (pixOf a.x.toNat b.l)) (a.x.toNat * a.y.toNat)) t
def tolW (t : Nat) : Nat := if rg t = 0 then 0 else t
theorem leB_tol (x t : Nat) : leB x (tolW t) = leB x t := by
  unfold tolW
  split
  · rename_i h
    unfold leB
    have e1 : isN t = false := isN_no (by rw [h]; decide +kernel)
    have e2 : isN 0 = false := by decide +kernel
    rw [e1, e2, sk_zero, sk_eq_zero.2 h]
  · rfl
theorem nrB_tol (t : Nat) (a b : Bp) : nrB (tolW t) a b = nrB t a b := by unfold nrB; rw [leB_tol]
def okB (a : Bp) : Bool := validB a.x a.y a.l
/-- It may be. -/
def Good (a : Bp) : Prop := okB a = true ∧ ∀ j : Nat, a.l[j]?.getD 0 < 18446744073709551616

/-- A bitmap that may be, in sizes and pixels. -/
theorem Good.vb {a : Bp} (h : Good a) : ∃ W H : Nat, a.x = W ∧ a.y = H ∧ 1 ≤ W ∧ 1 ≤ H ∧ W * H ≤ 1048576 ∧ a.l = render W H (pixOf W a.l) ∧ ∀ (w' : World) (v : Value), Seen w' v a.l → Vb w' v W H (pixOf W a.l) := by
  have hv' : validB a.x a.y a.l = true := h.1
  have hv2 := hv'
  unfold validB at hv'
  simp only [Bool.and_eq_true, decide_eq_true_eq] at hv'
  obtain ⟨⟨hs, hl⟩, hr⟩ := hv'
  unfold sizeOK at hs
  obtain ⟨s1, s2, s3⟩ := of_decide_eq_true hs
  obtain ⟨W, hW⟩ : ∃ W : Nat, a.x = W := ⟨a.x.toNat, by omega⟩
  obtain ⟨H, hH⟩ : ∃ H : Nat, a.y = H := ⟨a.y.toNat, by omega⟩
  rw [hW, hH] at hl s3
  rw [hW] at hr s1
  rw [hH] at hr s2
  simp only [Int.toNat_natCast] at hl hr
  have e := valid_render W H a.l (by omega) hl hr h.2
  have s4 : W * H ≤ 1048576 := by rw [← Int.natCast_mul] at s3; omega
  exact ⟨W, H, hW, hH, by omega, by omega, s4, e, fun w' v hs => ⟨by rw [← e]; exact hs, by omega, by omega, s4, by rw [← e, ← hW, ← hH]; exact hv2⟩⟩

theorem unl_area {W H : Nat} (h : W * H ≤ 1048576) (P Q : Nat → Nat → Bool) : unl W H P Q ≤ 1048576 := by
  have := unl_le W H P Q
  rw [Nat.mul_comm] at h
  omega

def bpV (a : Bp) : Value := .agg #[.int .i64 a.x, .int .i64 a.y, a.v]

theorem inf_leB (t : Nat) : leB 9218868437227405312 t = leB 9218868437227405312 t := rfl

/-- Unlike, asked for two bitmaps that may be: what it says against a tolerance. -/
theorem unlike_bp {w : World} {a b : Bp} (va vb : Value) (ha : Good a) (hb : Good b) (sa : Seen w va a.l) (sb : Seen w vb b.l) :
    Calls Try.prog 25 #[.agg #[.int .i64 a.x, .int .i64 a.y, va], .agg #[.int .i64 b.x, .int .i64 b.y, vb]] w fun e w' => ∃ x, e = .returned (.tuple #[.float .f64 x, .int .i64 0]) ∧ (∀ t, (leB x t && (decide (a.x = b.x) && decide (a.y = b.y))) = nrB t a b) ∧ Fr (fun _ => False) w w' := by
  obtain ⟨W, H, e1, e2, g1, g2, g3, _, k1⟩ := Good.vb ha
  obtain ⟨W', H', f1, f2, m1, m2, m3, _, k2⟩ := Good.vb hb
  rw [e1, e2, f1, f2]
  by_cases hs : W = W' ∧ H = H'
  · obtain ⟨rfl, rfl⟩ := hs
    refine (unlike_ok W H va vb _ _ w (k1 w va sa) (k2 w vb sb)).mono ?_
    rintro e w' ⟨x, rfl, hx, hf⟩
    refine ⟨x, rfl, fun t => ?_, hf⟩
    have := shP_eq (unl_area g3 _ _) (Nat.mul_pos g1 g2) g3 hx
    subst this
    unfold nrB
    rw [e1, e2, f1, f2]
    simp
  · have hne : W ≠ W' ∨ H ≠ H' := by
      by_cases h : W = W'
      · exact Or.inr fun h' => hs ⟨h, h'⟩
      · exact Or.inl h
    refine (unlike_far W H W' H' va vb _ _ w (k1 w va sa) (k2 w vb sb) hne).mono ?_
    rintro e w' ⟨rfl, hf⟩
    refine ⟨_, rfl, fun t => ?_, hf⟩
    unfold nrB
    rw [e1, e2, f1, f2]
    have hd : (decide ((W : Int) = W') && decide ((H : Int) = H')) = false := by
      by_cases h : W = W'
      · have : ¬ H = H' := fun h' => hs ⟨h, h'⟩
        simp; omega
      · simp; omega
    have hd2 : decide ((W : Int) = W' ∧ (H : Int) = H') = false := by
      rw [decide_eq_false_iff_not]; intro h; exact hs ⟨by omega, by omega⟩
    rw [hd, hd2]; simp

/-- The document's own Unlike of two bitmaps of one size. -/
theorem runlike_bp {w : World} {a b : Bp} (va vb : Value) (ha : Good a) (hb : Good b) (hx : a.x = b.x) (hy : a.y = b.y) (sa : Seen w va a.l) (sb : Seen w vb b.l) :
    Calls Try.prog 29 #[.agg #[.int .i64 a.x, .int .i64 a.y, va], .agg #[.int .i64 b.x, .int .i64 b.y, vb]] w fun e w' => ∃ x, e = .returned (.float .f64 x) ∧ (∀ t, leB x t = nrB t a b) ∧ Fr (fun _ => False) w w' := by
  obtain ⟨W, H, e1, e2, g1, g2, g3, _, k1⟩ := Good.vb ha
  obtain ⟨W', H', f1, f2, m1, m2, m3, _, k2⟩ := Good.vb hb
  obtain rfl : W = W' := by omega
  obtain rfl : H = H' := by omega
  rw [e1, e2, f1, f2]
  refine (runlike_ok W H va vb _ _ w (k1 w va sa) (k2 w vb sb)).mono ?_
  rintro e w' ⟨x, rfl, hx, hf⟩
  refine ⟨x, rfl, fun t => ?_, hf⟩
  have := shP_eq (unl_area g3 _ _) (Nat.mul_pos g1 g2) g3 hx
  subst this
  unfold nrB
  rw [e1, e2, f1, f2]
  simp

/-! Classes, as lists: R: which bitmap began each class; C: each bitmap's class. -/
def fnd (nr : Nat → Nat → Bool) (R : List Nat) (i : Nat) : Option Nat := (List.range R.length).find? fun c => nr (R.getD c 0) i
def clR (nr : Nat → Nat → Bool) : Nat → List Nat
  | 0 => []
  | i + 1 => match fnd nr (clR nr i) i with | some _ => clR nr i | none => clR nr i ++ [i]
def clC (nr : Nat → Nat → Bool) : Nat → List Nat
  | 0 => []
  | i + 1 => clC nr i ++ [(fnd nr (clR nr i) i).getD (clR nr i).length]
theorem length_clC (nr : Nat → Nat → Bool) : ∀ n, (clC nr n).length = n
  | 0 => rfl
  | n + 1 => by unfold clC; rw [List.length_append, length_clC nr n]; rfl
theorem clR_succ_some {nr : Nat → Nat → Bool} {i c : Nat} (h : fnd nr (clR nr i) i = some c) : clR nr (i + 1) = clR nr i := by
  show (match fnd nr (clR nr i) i with | some _ => clR nr i | none => clR nr i ++ [i]) = _
  rw [h]
theorem clR_succ_none {nr : Nat → Nat → Bool} {i : Nat} (h : fnd nr (clR nr i) i = none) : clR nr (i + 1) = clR nr i ++ [i] := by
  show (match fnd nr (clR nr i) i with | some _ => clR nr i | none => clR nr i ++ [i]) = _
  rw [h]
theorem clC_succ_some {nr : Nat → Nat → Bool} {i c : Nat} (h : fnd nr (clR nr i) i = some c) : clC nr (i + 1) = clC nr i ++ [c] := by
  show clC nr i ++ [(fnd nr (clR nr i) i).getD _] = _
  rw [h]; rfl
theorem clC_succ_none {nr : Nat → Nat → Bool} {i : Nat} (h : fnd nr (clR nr i) i = none) : clC nr (i + 1) = clC nr i ++ [(clR nr i).length] := by
  show clC nr i ++ [(fnd nr (clR nr i) i).getD _] = _
  rw [h]; rfl
theorem clR_cases (nr : Nat → Nat → Bool) (i : Nat) : clR nr (i + 1) = clR nr i ∨ clR nr (i + 1) = clR nr i ++ [i] := by
  cases h : fnd nr (clR nr i) i with
  | none => exact Or.inr (clR_succ_none h)
  | some c => exact Or.inl (clR_succ_some h)
theorem clR_le (nr : Nat → Nat → Bool) : ∀ n, (clR nr n).length ≤ n
  | 0 => Nat.le_refl _
  | n + 1 => by
    have := clR_le nr n
    rcases clR_cases nr n with h | h <;> rw [h]
    · omega
    · simp; omega
theorem clR_mono (nr : Nat → Nat → Bool) {i n : Nat} (h : i ≤ n) : (clR nr i).length ≤ (clR nr n).length := by
  induction n with
  | zero => obtain rfl : i = 0 := by omega
            exact Nat.le_refl _
  | succ n ih =>
    by_cases e : i = n + 1
    · subst e; exact Nat.le_refl _
    · have := ih (by omega)
      rcases clR_cases nr n with h | h <;> rw [h]
      · exact this
      · simp; omega
theorem clR_lt (nr : Nat → Nat → Bool) : ∀ n, ∀ r ∈ clR nr n, r < n
  | 0, r, h => by cases h
  | n + 1, r, h => by
    rcases clR_cases nr n with e | e <;> rw [e] at h
    · have := clR_lt nr n r h; omega
    · rcases List.mem_append.1 h with h | h
      · have := clR_lt nr n r h; omega
      · simp at h; omega
/-- The classes of one size, in their order. -/
def ofSz (sz : Nat → Nat → Nat → Bool) (R : List Nat) (x y : Nat) : List Nat := (List.range R.length).filter fun c => sz (R.getD c 0) x y

end Go.Proofs.Ytodgdbbhllejkaa
