/- The document's own contexts, place by place: the numbers. -/
import Derived.Test.YtdgbojlcnkpepaaCx
namespace Go.Proofs.Ytdgbojlcnkpepaa

/-- A template's places: to the right, down, in turns. -/
def plc : Nat → List Int
  | 0 => [-2, -2, -1, -2, 0, -2, 1, -2, 2, -2, -3, -1, -2, -1, -1, -1, 0, -1, 1, -1, 2, -1, 3, -1, -4, 0, -3, 0, -2, 0, -1, 0]
  | 1 => [-1, -2, 0, -2, 1, -2, 2, -2, -2, -1, -1, -1, 0, -1, 1, -1, 2, -1, 3, -1, -3, 0, -2, 0, -1, 0]
  | 2 => [-1, -2, 0, -2, 1, -2, -2, -1, -1, -1, 0, -1, 1, -1, 2, -1, -2, 0, -1, 0]
  | _ => [-3, -1, -2, -1, -1, -1, 0, -1, 1, -1, 2, -1, -4, 0, -3, 0, -2, 0, -1, 0]
/-- The place with number k, of a template's three rows. -/
def pX (t k : Nat) : Int := (plc t)[2 * k]?.getD 0
def pY (t k : Nat) : Int := (plc t)[2 * k + 1]?.getD 0
theorem plc_length (t : Nat) (ht : t < 4) : (plc t).length = 2 * bitsK t 3 := by
  have h : ∀ t, t < 4 → (plc t).length = 2 * bitsK t 3 := by decide
  exact h t ht
theorem plc_spans (t : Nat) (ht : t < 4) : ∀ i, i < 3 → ∀ j, j < cntS t i → pX t (bitsK t i + j) = fstS t i + j ∧ pY t (bitsK t i + j) = -2 + (i : Int) := by
  have h : ∀ t, t < 4 → ∀ i, i < 3 → ∀ j, j < cntS t i → pX t (bitsK t i + j) = fstS t i + j ∧ pY t (bitsK t i + j) = -2 + (i : Int) := by decide +kernel
  exact h t ht
theorem plc_small (t : Nat) (ht : t < 4) (k : Nat) : -4 ≤ pX t k ∧ pX t k ≤ 3 ∧ -2 ≤ pY t k ∧ pY t k ≤ 0 := by
  rcases Nat.lt_or_ge k 16 with h | h
  · have hh : ∀ t, t < 4 → ∀ k, k < 16 → -4 ≤ pX t k ∧ pX t k ≤ 3 ∧ -2 ≤ pY t k ∧ pY t k ≤ 0 := by decide +kernel
    exact hh t ht k h
  · have h1 := plc_length t ht
    have h2 := bits_le t ht
    unfold pX pY
    rw [List.getElem?_eq_none (by omega), List.getElem?_eq_none (by omega)]
    simp
/-- Gathered up to the place with number k. -/
def gth (q : Int → Int → Nat) (t : Nat) (x y : Int) : Nat → Nat
  | 0 => 0
  | k + 1 => 2 * gth q t x y k + q (x + pX t k) (y + pY t k)
theorem gth_lt (q : Int → Int → Nat) (hq : ∀ x y, q x y ≤ 1) (t : Nat) (x y : Int) : ∀ k, gth q t x y k < 2 ^ k
  | 0 => by simp [gth]
  | k + 1 => by
    have h1 := gth_lt q hq t x y k
    have h2 := hq (x + pX t k) (y + pY t k)
    rw [gth, Nat.pow_succ]; omega
theorem gth_gathN (q : Int → Int → Nat) (t : Nat) (x y : Int) (m : Nat) : ∀ n, gth q t x y (m + n) = gathN (fun j => q (x + pX t (m + j)) (y + pY t (m + j))) n (gth q t x y m)
  | 0 => rfl
  | n + 1 => by rw [← Nat.add_assoc, gth, gathN, gth_gathN q t x y m n]
theorem gth_ctxK (q : Int → Int → Nat) (t : Nat) (x y : Int) (ht : t < 4) : ∀ k, k ≤ 3 → gth q t x y (bitsK t k) = ctxK q t x y k
  | 0, _ => rfl
  | k + 1, hk => by
    rw [bitsK, gth_gathN, gth_ctxK q t x y ht k (by omega), ctxK]
    refine gathN_congr _ _ fun j hj => ?_
    obtain ⟨h1, h2⟩ := plc_spans t ht k (by omega) j hj
    rw [h1, h2]
    congr 1 <;> omega
theorem gth_ctx (q : Int → Int → Nat) (t : Nat) (x y : Int) (ht : t < 4) : gth q t x y (bitsK t 3) = ctx q t x y := gth_ctxK q t x y ht 3 (by omega)

end Go.Proofs.Ytdgbojlcnkpepaa
