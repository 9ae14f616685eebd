/- Sums and differences of finite floats. -/
import Derived.Test.YtnfmcdhllplgmaaFi
namespace Go.Proofs.Ytnfmcdhllplgmaa
open Ieee

theorem add_spec {x y : Nat} (hx : rg x < infR) (hy : rg y < infR) :
    ∃ r, floatBits .add .f64 x y = some (wo (if ky x + ky y = 0 then sg x && sg y else decide (ky x + ky y < 0)) r) ∧ IsRd r (ky x + ky y).natAbs 1 := by
  obtain ⟨k, a, b, base, e0, e1, e2, ea, eb⟩ : ∃ (k a b : Nat) (base : Int), min (-1074 + (pl x : Int)) (-1074 + (pl y : Int)) = base ∧ (-1074 + (pl x : Int) - base).toNat = a ∧ (-1074 + (pl y : Int) - base).toNat = b ∧ a + k = pl x ∧ b + k = pl y ∧ (k : Int) = base + 1074 :=
    ⟨min (pl x) (pl y), pl x - min (pl x) (pl y), pl y - min (pl x) (pl y), _, rfl, by omega, by omega, by omega, by omega, by omega⟩
  have hk : (k : Int) = base + 1074 := eb.2
  have eb := eb.1
  have q1 : signed (sg x) (mg x) a * ((2 ^ k : Nat) : Int) = ky x := by rw [signed_scale, ea, signed_ky]
  have q2 : signed (sg y) (mg y) b * ((2 ^ k : Nat) : Int) = ky y := by rw [signed_scale, eb, signed_ky]
  have e : floatBits .add .f64 x y = some (wo (if signed (sg x) (mg x) a + signed (sg y) (mg y) b = 0 then sg x && sg y else decide (signed (sg x) (mg x) a + signed (sg y) (mg y) b < 0)) (nr (signed (sg x) (mg x) a + signed (sg y) (mg y) b).natAbs base)) := by
    show double.add x y = _
    unfold Format.add
    rw [read_num hx, read_num hy]
    unfold Datum.sum
    dsimp only
    rw [e0, e1, e2]
    show some (double.write _) = _
    rw [write_num]
  rw [e]
  generalize signed (sg x) (mg x) a = A at *
  generalize signed (sg y) (mg y) b = B at *
  have hp : (0 : Int) < ((2 ^ k : Nat) : Int) := by exact_mod_cast Nat.two_pow_pos k
  have hz : ky x + ky y = (A + B) * ((2 ^ k : Nat) : Int) := by rw [Int.add_mul, q1, q2]
  have c1 : A + B = 0 ↔ ky x + ky y = 0 := by
    rw [hz, Int.mul_eq_zero]
    constructor
    · exact Or.inl
    · rintro (h | h)
      · exact h
      · omega
  have c2 : A + B < 0 ↔ ky x + ky y < 0 := by
    rw [hz, ← Int.zero_mul ((2 ^ k : Nat) : Int), Int.mul_lt_mul_right hp, Int.zero_mul]
  have c3 : (ky x + ky y).natAbs = (A + B).natAbs * 2 ^ k := by rw [hz, Int.natAbs_mul, Int.natAbs_natCast]
  refine ⟨nr (A + B).natAbs base, ?_, ?_⟩
  · congr 2
    by_cases h : A + B = 0
    · rw [if_pos h, if_pos (c1.1 h)]
    · rw [if_neg h, if_neg (fun x => h (c1.2 x))]; exact decide_eq_decide.2 c2
  · rw [c3]
    by_cases h : (A + B).natAbs = 0
    · rw [h, Nat.zero_mul]
      refine ⟨Nat.zero_le _, Or.inl ?_, Or.inr (Or.inl ?_)⟩
      · rfl
      · show 0 < 1 * mid 0; decide
    · have h1 := nr_spec (Q := (A + B).natAbs) (place := base) (P := (A + B).natAbs) (N := 1) (a := k) (b := 0) h (by decide) (Or.inl (Nat.mul_one _).symm) (by omega)
      simpa using h1

/-- A word with the other sign. -/
def ng (x : Nat) : Nat := wo (!sg x) (rg x)
theorem rg_ng {x : Nat} (h : rg x ≤ infR) : rg (ng x) = rg x := rg_wo h
theorem sg_ng {x : Nat} (h : rg x ≤ infR) : sg (ng x) = !sg x := sg_wo h
theorem ky_ng {x : Nat} (h : rg x ≤ infR) : ky (ng x) = -ky x := by
  unfold ky; rw [rg_ng h, sg_ng h]; cases sg x <;> simp
theorem sk_ng {x : Nat} (h : rg x ≤ infR) : sk (ng x) = -sk x := by
  unfold sk; rw [rg_ng h, sg_ng h]; cases sg x <;> simp

theorem sub_add {x y : Nat} (hy : rg y < infR) : floatBits .sub .f64 x y = floatBits .add .f64 x (ng y) := by
  show double.sub x y = double.add x (ng y)
  unfold Format.sub Format.add
  have h1 : rg (ng y) < infR := by rw [rg_ng (Nat.le_of_lt hy)]; exact hy
  rw [read_num hy, read_num h1]
  have e1 : mg (ng y) = mg y := by unfold mg; rw [rg_ng (Nat.le_of_lt hy)]
  have e2 : pl (ng y) = pl y := by unfold pl; rw [rg_ng (Nat.le_of_lt hy)]
  rw [e1, e2, sg_ng (Nat.le_of_lt hy)]
  rfl

theorem sub_spec {x y : Nat} (hx : rg x < infR) (hy : rg y < infR) :
    ∃ r, floatBits .sub .f64 x y = some (wo (if ky x - ky y = 0 then sg x && !sg y else decide (ky x - ky y < 0)) r) ∧ IsRd r (ky x - ky y).natAbs 1 := by
  rw [sub_add hy]
  have h1 : rg (ng y) < infR := by rw [rg_ng (Nat.le_of_lt hy)]; exact hy
  obtain ⟨r, e, h⟩ := add_spec hx h1
  rw [ky_ng (Nat.le_of_lt hy), sg_ng (Nat.le_of_lt hy)] at e
  rw [ky_ng (Nat.le_of_lt hy)] at h
  exact ⟨r, e, h⟩

theorem ky_abs (x : Nat) : (ky x).natAbs = vl (rg x) := by unfold ky; split <;> simp

/-- A float and nought. -/
theorem add_zero {x : Nat} (hx : x < 18446744073709551616) (h : rg x ≤ infR) : floatBits .add .f64 x 0 = some (if rg x = 0 then 0 else x) := by
  rcases Nat.lt_or_eq_of_le h with lt | eq
  · obtain ⟨r, e, hr⟩ := add_spec (x := x) (y := 0) lt (by decide)
    have k0 : ky 0 = 0 := rfl
    rw [k0, Int.add_zero] at e hr
    rw [ky_abs] at hr
    have hr' : r = rg x := hr.uniq (IsRd.exact h) (by decide) (by decide) rfl
    rw [e, hr']
    congr 1
    by_cases h0 : rg x = 0
    · have hz : ky x = 0 := by unfold ky; rw [h0]; split <;> rfl
      rw [if_pos hz, if_pos h0, h0, show sg 0 = false from by decide, Bool.and_false]; rfl
    · have hv : 0 < vl (rg x) := by have := vl_lt (r := 0) (s := rg x) (by omega); have e0 : vl 0 = 0 := rfl; omega
      have hz : ky x ≠ 0 := by unfold ky; split <;> omega
      rw [if_neg hz, if_neg h0]
      have : decide (ky x < 0) = sg x := by
        unfold ky
        cases sg x
        · exact decide_eq_false (by simp)
        · exact decide_eq_true (by simp; omega)
      rw [this, wo_rg hx]
  · rw [if_neg (by rw [eq]; decide)]
    show double.add x 0 = _
    unfold Format.add
    rw [read_inf eq, read_num (x := 0) (by decide)]
    show some (double.write (.infinity (sg x))) = _
    rw [write_inf, ← eq, wo_rg hx]

end Go.Proofs.Ytnfmcdhllplgmaa
