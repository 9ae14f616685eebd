/- Sums and middles of whole numbers as floats. -/
import Derived.Test.YtnfmcdhllplgmaaRw
import Derived.Test.YtnfmcdhllplgmaaFs
namespace Go.Proofs.Ytnfmcdhllplgmaa
open Ieee

/-- x is the whole number a. -/
def IsI (x : Nat) (a : Int) : Prop := rg x < infR ∧ ky x = a * ((2 ^ kE : Nat) : Int)
theorem uPos : (0 : Int) < ((2 ^ kE : Nat) : Int) := by have := Nat.two_pow_pos kE; omega
theorem fi_isI {a : Int} (h : a.natAbs ≤ 9007199254740992) : IsI (fi a) a := by
  obtain ⟨h1, h2, h3⟩ := fi_spec h
  refine ⟨h1, ?_⟩
  unfold ky
  rw [h2, h3]
  generalize 2 ^ kE = U
  by_cases c : a < 0
  · rw [decide_eq_true c, if_pos rfl, Int.natCast_mul, ← Int.neg_mul]; congr 1; omega
  · rw [decide_eq_false c, if_neg (by simp), Int.natCast_mul]; congr 1; omega
theorem IsI.ng {x : Nat} {a : Int} (h : IsI x a) : IsI (ng x) (-a) :=
  ⟨by rw [rg_ng (Nat.le_of_lt h.1)]; exact h.1, by rw [ky_ng (Nat.le_of_lt h.1), h.2, Int.neg_mul]⟩
theorem IsI.vl {x : Nat} {a : Int} (h : IsI x a) : vl (rg x) = a.natAbs * 2 ^ kE := by
  rw [← ky_abs, h.2, Int.natAbs_mul, Int.natAbs_natCast]
theorem IsI.sg {x : Nat} {a : Int} (h : IsI x a) (h0 : a ≠ 0) : sg x = decide (a < 0) := by
  have hv := h.vl
  have h2 := h.2
  have hU := uPos
  unfold ky at h2
  rw [hv] at h2
  have hp : 0 < a.natAbs * 2 ^ kE := Nat.mul_pos (by omega) (Nat.two_pow_pos _)
  generalize 2 ^ kE = U at *
  have e : ((a.natAbs * U : Nat) : Int) = a * U ∨ ((a.natAbs * U : Nat) : Int) = -(a * U) := by
    rw [Int.natCast_mul]
    rcases Int.le_total 0 a with c | c
    · left; congr 1; omega
    · right; rw [← Int.neg_mul]; congr 1; omega
  by_cases c : a < 0
  · have hneg : a * (U : Int) < 0 := Int.mul_neg_of_neg_of_pos c hU
    rw [decide_eq_true c]
    cases hs : Go.Proofs.Ytnfmcdhllplgmaa.sg x
    · rw [hs] at h2; simp at h2; omega
    · rfl
  · have hpos : 0 < a * (U : Int) := Int.mul_pos (by omega) hU
    rw [decide_eq_false c]
    cases hs : Go.Proofs.Ytnfmcdhllplgmaa.sg x
    · rfl
    · rw [hs] at h2; simp at h2; omega
theorem IsI.lt {x y : Nat} {a b : Int} (hx : IsI x a) (hy : IsI y b) : ltB x y = decide (a < b) := by
  unfold ltB
  rw [isN_no (Nat.le_of_lt hx.1), isN_no (Nat.le_of_lt hy.1)]
  simp only [Bool.not_false, Bool.true_and]
  refine decide_eq_decide.2 ?_
  rw [← Int.compare_eq_lt, ← ky_sk, Int.compare_eq_lt, hx.2, hy.2]
  exact Int.mul_lt_mul_right uPos
theorem IsI.add {x y s : Nat} {a b : Int} (hx : IsI x a) (hy : IsI y b) (hb : (a + b).natAbs ≤ 9007199254740992) (h : OpR .add x y s) : IsI s (a + b) := by
  obtain ⟨r, e, hr⟩ := add_spec hx.1 hy.1
  have es : s = wo (if ky x + ky y = 0 then Go.Proofs.Ytnfmcdhllplgmaa.sg x && Go.Proofs.Ytnfmcdhllplgmaa.sg y else decide (ky x + ky y < 0)) r := by
    rcases h.2 with k | ⟨k, _⟩
    · rw [e] at k; cases k; rfl
    · rw [e] at k; cases k
  have hz : ky x + ky y = (a + b) * ((2 ^ kE : Nat) : Int) := by rw [hx.2, hy.2, Int.add_mul]
  rw [hz] at es hr
  rw [Int.natAbs_mul, Int.natAbs_natCast] at hr
  obtain ⟨f1, f2, f3⟩ := fi_spec hb
  have er : r = rg (fi (a + b)) := by
    have := IsRd.exact (r := rg (fi (a + b))) (Nat.le_of_lt f1)
    exact hr.uniq this (by decide) (by decide) (by rw [f2])
  have hU := uPos
  refine ⟨?_, ?_⟩
  · rw [es, rg_wo hr.le, er]; exact f1
  · rw [es]
    unfold ky
    rw [sg_wo hr.le, rg_wo hr.le, er, f2]
    generalize 2 ^ kE = U at *
    by_cases h0 : a + b = 0
    · rw [h0]; simp
    · have hne : (a + b) * (U : Int) ≠ 0 := Int.mul_ne_zero h0 (by omega)
      rw [if_neg hne]
      by_cases c : a + b < 0
      · have hneg : (a + b) * (U : Int) < 0 := Int.mul_neg_of_neg_of_pos c hU
        rw [decide_eq_true hneg, if_pos rfl, Int.natCast_mul, ← Int.neg_mul]; congr 1; omega
      · have hpos : 0 < (a + b) * (U : Int) := Int.mul_pos (by omega) hU
        rw [decide_eq_false (by omega), if_neg (by simp), Int.natCast_mul]; congr 1; omega

/-- The sum of the first k + 1. -/
def sumI (a : Nat → Int) : Nat → Int
  | 0 => a 0
  | k + 1 => sumI a k + a (k + 1)
theorem SumR.isI {F : Nat → Nat} {a : Nat → Int} : ∀ {k s : Nat}, (∀ j, j ≤ k → IsI (F j) (a j)) → (∀ j, j ≤ k → (sumI a j).natAbs ≤ 9007199254740992) → SumR F k s → IsI s (sumI a k)
  | 0, _, h, _, e => by rw [show _ = F 0 from e]; exact h 0 (Nat.le_refl _)
  | k + 1, _, h, hb, ⟨_, h1, h2⟩ => IsI.add (SumR.isI (fun j hj => h j (by omega)) (fun j hj => hb j (by omega)) h1) (h (k + 1) (Nat.le_refl _)) (hb (k + 1) (Nat.le_refl _)) h2
theorem sumI_bound {a : Nat → Int} {B : Int} : ∀ {k : Nat}, (∀ j, j ≤ k → -B ≤ a j ∧ a j ≤ B) → -((k + 1 : Nat) * B) ≤ sumI a k ∧ sumI a k ≤ (k + 1 : Nat) * B
  | 0, h => by have := h 0 (Nat.le_refl _); simp [sumI]; omega
  | k + 1, h => by
    have h1 := sumI_bound (a := a) (B := B) (k := k) (fun j hj => h j (by omega))
    have h2 := h (k + 1) (Nat.le_refl _)
    have e : ((k + 1 + 1 : Nat) : Int) * B = (k + 1 : Nat) * B + B := by rw [Int.natCast_add (k + 1) 1, Int.add_mul]; simp
    rw [e]; show _ ≤ sumI a k + a (k + 1) ∧ sumI a k + a (k + 1) ≤ _
    omega
theorem sumI_ge {a : Nat → Int} {B : Int} : ∀ {k : Nat}, (∀ j, j ≤ k → B ≤ a j) → (k + 1 : Nat) * B ≤ sumI a k
  | 0, h => by have := h 0 (Nat.le_refl _); simp [sumI]; omega
  | k + 1, h => by
    have h1 := sumI_ge (a := a) (B := B) (k := k) (fun j hj => h j (by omega))
    have h2 := h (k + 1) (Nat.le_refl _)
    have e : ((k + 1 + 1 : Nat) : Int) * B = (k + 1 : Nat) * B + B := by rw [Int.natCast_add (k + 1) 1, Int.add_mul]; simp
    rw [e]; show _ ≤ sumI a k + a (k + 1)
    omega
theorem sumI_le {a : Nat → Int} {B : Int} : ∀ {k : Nat}, (∀ j, j ≤ k → a j ≤ B) → sumI a k ≤ (k + 1 : Nat) * B
  | 0, h => by have := h 0 (Nat.le_refl _); simp [sumI]; omega
  | k + 1, h => by
    have h1 := sumI_le (a := a) (B := B) (k := k) (fun j hj => h j (by omega))
    have h2 := h (k + 1) (Nat.le_refl _)
    have e : ((k + 1 + 1 : Nat) : Int) * B = (k + 1 : Nat) * B + B := by rw [Int.natCast_add (k + 1) 1, Int.add_mul]; simp
    rw [e]; show sumI a k + a (k + 1) ≤ _
    omega

/-- A sum, shared. -/
theorem quo_spec {s x n : Nat} {A : Int} (hs : IsI s A) (hn : 1 ≤ n) (hn2 : n ≤ 9007199254740992) (h : OpR .quo s (fi n) x) :
    ∃ r, x = wo (sg s) r ∧ IsRd r (A.natAbs * 2 ^ kE) n := by
  have hfn : IsI (fi n) n := fi_isI (by omega)
  have hv := hfn.vl
  have hU : 0 < 2 ^ kE := Nat.two_pow_pos _
  have h0 : rg (fi n) ≠ 0 := by
    intro e; rw [e] at hv
    have : 0 < (n : Int).natAbs * 2 ^ kE := Nat.mul_pos (by omega) hU
    rw [← hv] at this; exact absurd this (by decide)
  obtain ⟨r, e, hr⟩ := div_spec hs.1 hfn.1 h0
  rw [hfn.sg (by omega), decide_eq_false (show ¬ (n : Int) < 0 by omega), Bool.xor_false] at e
  rw [hs.vl, hv] at hr
  refine ⟨r, ?_, hr.congr (Nat.mul_pos (by omega) hU) (by omega) ?_⟩
  · rcases h.2 with k | ⟨k, _⟩
    · rw [e] at k; cases k; rfl
    · rw [e] at k; cases k
  · rw [Int.natAbs_natCast]; generalize 2 ^ kE = U; ac_rfl
theorem IsI.rd {x : Nat} {a : Int} (h : IsI x a) : IsRd (rg x) (a.natAbs * 2 ^ kE) 1 := by
  rw [← h.vl]; exact IsRd.exact (Nat.le_of_lt h.1)
theorem IsI.sk {x : Nat} {a : Int} (h : IsI x a) : sk x = if a < 0 then -(rg x : Int) else rg x := by
  by_cases h0 : a = 0
  · have hv := h.vl
    rw [h0] at hv
    have : rg x = 0 := by
      have := h.rd; rw [h0] at this
      exact IsRd.zero (q := 1) (by simpa using this) (by decide)
    rw [if_neg (by omega), sk_eq_zero.2 this, this]; rfl
  · unfold Go.Proofs.Ytnfmcdhllplgmaa.sk
    rw [h.sg h0]
    by_cases c : a < 0
    · rw [decide_eq_true c, if_pos c, if_pos rfl]
    · rw [decide_eq_false c, if_neg c, if_neg (by simp)]
theorem quo_sk {s x n : Nat} {A : Int} (hs : IsI s A) (hn : 1 ≤ n) (hn2 : n ≤ 9007199254740992) (h : OpR .quo s (fi n) x) :
    ∃ r, r ≤ infR ∧ isN x = false ∧ sk x = (if A < 0 then -(r : Int) else r) ∧ IsRd r (A.natAbs * 2 ^ kE) n := by
  obtain ⟨r, e, hr⟩ := quo_spec hs hn hn2 h
  refine ⟨r, hr.le, by rw [e]; exact isN_wo hr.le, ?_, hr⟩
  rw [e, sk_wo hr.le]
  by_cases h0 : A = 0
  · have : r = 0 := IsRd.zero (q := n) (by rw [h0] at hr; simpa using hr) (by omega)
    rw [this]; simp
  · rw [hs.sg h0]
    by_cases c : A < 0
    · rw [decide_eq_true c, if_pos c, if_pos rfl]
    · rw [decide_eq_false c, if_neg c, if_neg (by simp)]
theorem quo_ge {s x n y : Nat} {A L : Int} (hs : IsI s A) (hn : 1 ≤ n) (hn2 : n ≤ 9007199254740992) (h : OpR .quo s (fi n) x) (hy : IsI y L) (hle : (n : Int) * L ≤ A) : leB y x = true := by
  obtain ⟨r, h1, h2, h3, h4⟩ := quo_sk hs hn hn2 h
  unfold leB
  rw [isN_no (Nat.le_of_lt hy.1), h2, h3, hy.sk]
  simp only [Bool.not_false, Bool.true_and, decide_eq_true_iff]
  have hrd := hy.rd
  by_cases c : A < 0
  · have cL : L < 0 := by
      rcases Int.lt_or_le L 0 with x | x
      · exact x
      · have := Int.mul_nonneg (show (0 : Int) ≤ n by omega) x; omega
    rw [if_pos c, if_pos cL]
    have : r ≤ rg y := by
      refine h4.mono hrd (by omega) (by decide) ?_
      rw [Nat.mul_one, Nat.mul_right_comm]
      refine Nat.mul_le_mul_right _ ?_
      have e : ((L.natAbs * n : Nat) : Int) = -((n : Int) * L) := by rw [Int.natCast_mul, Int.mul_comm, ← Int.mul_neg]; congr 1; omega
      omega
    omega
  · rw [if_neg c]
    by_cases cL : L < 0
    · rw [if_pos cL]; omega
    · rw [if_neg cL]
      have : rg y ≤ r := by
        refine hrd.mono h4 (by decide) (by omega) ?_
        rw [Nat.mul_one, Nat.mul_right_comm]
        refine Nat.mul_le_mul_right _ ?_
        have e : ((L.natAbs * n : Nat) : Int) = (n : Int) * L := by rw [Int.natCast_mul, Int.mul_comm]; congr 1; omega
        omega
      omega
theorem quo_le {s x n y : Nat} {A L : Int} (hs : IsI s A) (hn : 1 ≤ n) (hn2 : n ≤ 9007199254740992) (h : OpR .quo s (fi n) x) (hy : IsI y L) (hle : A ≤ (n : Int) * L) : leB x y = true := by
  obtain ⟨r, h1, h2, h3, h4⟩ := quo_sk hs hn hn2 h
  unfold leB
  rw [isN_no (Nat.le_of_lt hy.1), h2, h3, hy.sk]
  simp only [Bool.not_false, Bool.true_and, decide_eq_true_iff]
  have hrd := hy.rd
  by_cases cL : L < 0
  · have c : A < 0 := by
      have := Int.mul_neg_of_pos_of_neg (show (0 : Int) < n by omega) cL; omega
    rw [if_pos c, if_pos cL]
    have : rg y ≤ r := by
      refine hrd.mono h4 (by decide) (by omega) ?_
      rw [Nat.mul_one, Nat.mul_right_comm]
      refine Nat.mul_le_mul_right _ ?_
      have e : ((L.natAbs * n : Nat) : Int) = -((n : Int) * L) := by rw [Int.natCast_mul, Int.mul_comm, ← Int.mul_neg]; congr 1; omega
      omega
    omega
  · rw [if_neg cL]
    by_cases c : A < 0
    · rw [if_pos c]; omega
    · rw [if_neg c]
      have : r ≤ rg y := by
        refine h4.mono hrd (by omega) (by decide) ?_
        rw [Nat.mul_one, Nat.mul_right_comm]
        refine Nat.mul_le_mul_right _ ?_
        have e : ((L.natAbs * n : Nat) : Int) = (n : Int) * L := by rw [Int.natCast_mul, Int.mul_comm]; congr 1; omega
        omega
      omega
theorem quo_eq {s x n y : Nat} {A L : Int} (hs : IsI s A) (hn : 1 ≤ n) (hn2 : n ≤ 9007199254740992) (h : OpR .quo s (fi n) x) (hy : IsI y L) (he : A = (n : Int) * L) : eqB x y = true := by
  have h1 := quo_ge hs hn hn2 h hy (by omega)
  have h2 := quo_le hs hn hn2 h hy (by omega)
  unfold leB at h1 h2
  unfold eqB
  simp only [Bool.and_eq_true, decide_eq_true_iff] at h1 h2 ⊢
  exact ⟨h2.1, by omega⟩

end Go.Proofs.Ytnfmcdhllplgmaa
