/- Sums over a bitmap's pixels, word by word: how many are black, their places; 'placesOf'. -/
import Derived.Test.YtodgdbbhllejkaaK1
import Derived.Test.YtodgdbbhllejkaaKOn
import Derived.Deep.LoopGhost
namespace Go.Proofs.Ytodgdbbhllejkaa
open Go.RowKit

theorem words_sum (W H : Nat) (G h : Nat → Nat → Nat) (hG : ∀ y j, G y j = sumTo (fun k => (fun x => if x < W then h y x else 0) (j * 64 + k)) 64) :
    sumTo (fun i => G (i / stride W) (i % stride W)) (H * stride W) = sumTo (fun y => sumTo (h y) W) H := by
  by_cases hW : W = 0
  · subst hW
    simp [stride, sumTo, sumTo_zero]
  have h1 : ∀ y, sumTo (fun j => G y j) (stride W) = sumTo (h y) W := by
    intro y
    rw [sumTo_congr (fun j _ => hG y j), sumTo_blocks (fun x => if x < W then h y x else 0) 64]
    have e2 : stride W * 64 = W + (stride W * 64 - W) := by unfold stride; omega
    rw [e2, sumTo_add]
    rw [sumTo_congr (n := W) (g := h y) (fun k hk => by simp [hk])]
    rw [sumTo_congr (n := stride W * 64 - W) (g := fun _ => 0) (fun k _ => by rw [if_neg (by omega)]), sumTo_zero]
    rfl
  rw [← sumTo_congr (fun y _ => h1 y), ← sumTo_blocks _ (stride W) H]
  apply sumTo_congr
  intro y _
  apply sumTo_congr
  intro j hj
  rw [at_div hj, at_mod hj]
theorem sumTo_rev (g : Nat → Nat) : ∀ n, sumTo (fun b => g (n - 1 - b)) n = sumTo g n
  | 0 => rfl
  | n + 1 => by
    have e := sumTo_add (fun b => g (n + 1 - 1 - b)) 1 n
    rw [Nat.add_comm 1 n] at e
    rw [e]
    have e2 : sumTo (fun k => g (n + 1 - 1 - (1 + k))) n = sumTo g n := by
      rw [← sumTo_rev g n]; apply sumTo_congr; intro k _; congr 1; omega
    rw [e2]
    show 0 + g (n + 1 - 1 - 0) + sumTo g n = sumTo g n + g n
    rw [show n + 1 - 1 - 0 = n from rfl]; omega
theorem sumTo_mul (f : Nat → Nat) (c : Nat) : ∀ n, sumTo (fun k => f k * c) n = sumTo f n * c
  | 0 => by simp [sumTo]
  | n + 1 => by
    show sumTo (fun k => f k * c) n + f n * c = (sumTo f n + f n) * c
    rw [sumTo_mul f c n, Nat.add_mul]
theorem sumTo_one {f g : Nat → Nat} {t c : Nat} (ht : f t = g t + c) (h : ∀ k, k ≠ t → f k = g k) : ∀ n, t < n → sumTo f n = sumTo g n + c
  | 0, hn => absurd hn (Nat.not_lt_zero _)
  | n + 1, hn => by
    show sumTo f n + f n = sumTo g n + g n + c
    by_cases e : t = n
    · subst e
      rw [sumTo_congr (n := t) (g := g) (fun k hk => h k (by omega)), ht]; omega
    · rw [sumTo_one ht h n (by omega), h n (by omega)]; omega

/-- The places of a word's ones, from the left, added up. -/
def plc (x : Nat) : Nat := sumTo (fun b => (x.testBit b).toNat * (63 - b)) 64
theorem plc_zero : plc 0 = 0 := by decide +kernel
theorem plc_le (x : Nat) : plc x ≤ 4032 := by
  have : plc x ≤ sumTo (fun _ => 63) 64 := sumTo_le (fun k _ => by
    cases x.testBit k <;> simp)
  rw [sumTo_const] at this; exact this
theorem plc_word (f : Nat → Bool) : plc (wordOf f) = sumTo (fun k => (f k).toNat * k) 64 := by
  unfold plc
  rw [← sumTo_rev (fun k => (f k).toNat * k) 64]
  apply sumTo_congr
  intro k hk
  rw [testBit_wordOf, decide_eq_true hk, Bool.true_and]
theorem pop_word (f : Nat → Bool) : pop 64 (wordOf f) = sumTo (fun k => (f k).toNat) 64 := pop_acc f 64

/-- Black pixels' columns, rows, added up; unlike pixels. -/
def sumXs (W H : Nat) (P : Nat → Nat → Bool) : Nat := sumTo (fun y => sumTo (fun x => (P x y).toNat * x) W) H
def sumYs (W H : Nat) (P : Nat → Nat → Bool) : Nat := sumTo (fun y => sumTo (fun x => (P x y).toNat * y) W) H
def unl (W H : Nat) (P Q : Nat → Nat → Bool) : Nat := sumTo (fun y => sumTo (fun x => (P x y != Q x y).toNat) W) H
theorem cnt_words (W H : Nat) (P : Nat → Nat → Bool) : sumTo (fun i => pop 64 (wd W P (i / stride W) (i % stride W))) (H * stride W) = cnt W H P :=
  words_sum W H (fun y j => pop 64 (wd W P y j)) (fun y x => (P x y).toNat) (fun y j => by
    simp only
    unfold wd
    rw [pop_word]
    apply sumTo_congr
    intro k _
    rw [Nat.mul_comm 64 j]
    by_cases h : j * 64 + k < W
    · rw [decide_eq_true h, Bool.true_and, if_pos h]
    · rw [decide_eq_false h, if_neg h]; rfl)
theorem sumX_words (W H : Nat) (P : Nat → Nat → Bool) : sumTo (fun i => pop 64 (wd W P (i / stride W) (i % stride W)) * (i % stride W * 64) + plc (wd W P (i / stride W) (i % stride W))) (H * stride W) = sumXs W H P :=
  words_sum W H (fun y j => pop 64 (wd W P y j) * (j * 64) + plc (wd W P y j)) (fun y x => (P x y).toNat * x) (fun y j => by
    simp only
    unfold wd
    rw [pop_word, plc_word, ← sumTo_mul, ← sumTo_plus]
    apply sumTo_congr
    intro k _
    rw [Nat.mul_comm 64 j]
    by_cases h : j * 64 + k < W
    · rw [decide_eq_true h, Bool.true_and, if_pos h, ← Nat.mul_add]
    · rw [decide_eq_false h, if_neg h]; simp)
theorem sumY_words (W H : Nat) (P : Nat → Nat → Bool) : sumTo (fun i => pop 64 (wd W P (i / stride W) (i % stride W)) * (i / stride W)) (H * stride W) = sumYs W H P :=
  words_sum W H (fun y j => pop 64 (wd W P y j) * y) (fun y x => (P x y).toNat * y) (fun y j => by
    simp only
    unfold wd
    rw [pop_word, ← sumTo_mul]
    apply sumTo_congr
    intro k _
    rw [Nat.mul_comm 64 j]
    by_cases h : j * 64 + k < W
    · rw [decide_eq_true h, Bool.true_and, if_pos h]
    · rw [decide_eq_false h, if_neg h]; simp)
theorem unl_words (W H : Nat) (P Q : Nat → Nat → Bool) : sumTo (fun i => pop 64 (wd W P (i / stride W) (i % stride W) ^^^ wd W Q (i / stride W) (i % stride W))) (H * stride W) = unl W H P Q :=
  words_sum W H (fun y j => pop 64 (wd W P y j ^^^ wd W Q y j)) (fun y x => (P x y != Q x y).toNat) (fun y j => by
    simp only
    have e : wd W P y j ^^^ wd W Q y j = wordOf (fun k => decide (64 * j + k < W) && (P (64 * j + k) y != Q (64 * j + k) y)) := by
      refine word_eq (Nat.xor_lt_two_pow (n := 64) (wd_lt _ _ _ _) (wd_lt _ _ _ _)) (fun k hk => ?_)
      unfold wd
      rw [Nat.testBit_xor, bit_wordOf _ k hk, bit_wordOf _ k hk]
      cases decide (64 * j + k < W) <;> cases P (64 * j + k) y <;> cases Q (64 * j + k) y <;> rfl
    rw [e, pop_word]
    apply sumTo_congr
    intro k _
    rw [Nat.mul_comm 64 j]
    by_cases h : j * 64 + k < W
    · rw [decide_eq_true h, Bool.true_and, if_pos h]
    · rw [decide_eq_false h, if_neg h]; rfl)

theorem and_pred_lt {x : Nat} (h : 0 < x) : x &&& (x - 1) < x := Nat.lt_of_le_of_lt Nat.and_le_right (by omega)

end Go.Proofs.Ytodgdbbhllejkaa
