/- How many pixels of a raster are black: by its words, and by its places. A pixel at any place, white outside. -/
import Derived.Test.YtpblenebmjmijaaPix
namespace Go.Proofs.Ytpblenebmjmijaa

def sumTo (f : Nat → Nat) : Nat → Nat
  | 0 => 0
  | n + 1 => sumTo f n + f n
def cnt (W H : Nat) (P : Nat → Nat → Bool) : Nat := sumTo (fun y => sumTo (fun x => (P x y).toNat) W) H

theorem sumTo_congr {f g : Nat → Nat} : ∀ {n : Nat}, (∀ k, k < n → f k = g k) → sumTo f n = sumTo g n
  | 0, _ => rfl
  | n + 1, h => by
    simp only [sumTo]
    rw [sumTo_congr (fun k hk => h k (by omega)), h n (by omega)]
theorem sumTo_add (f : Nat → Nat) (a : Nat) : ∀ b, sumTo f (a + b) = sumTo f a + sumTo (fun k => f (a + k)) b
  | 0 => by simp [sumTo]
  | b + 1 => by
    rw [← Nat.add_assoc]
    simp only [sumTo]
    rw [sumTo_add f a b]; omega
theorem sumTo_zero : ∀ n, sumTo (fun _ => 0) n = 0
  | 0 => rfl
  | n + 1 => by simp [sumTo, sumTo_zero n]
theorem sumTo_blocks (f : Nat → Nat) (S : Nat) : ∀ H, sumTo (fun y => sumTo (fun j => f (y * S + j)) S) H = sumTo f (H * S)
  | 0 => by simp [sumTo]
  | H + 1 => by
    simp only [sumTo]
    rw [sumTo_blocks f S H, Nat.add_mul, Nat.one_mul, sumTo_add]
theorem sumTo_plus (f g : Nat → Nat) : ∀ n, sumTo (fun k => f k + g k) n = sumTo f n + sumTo g n
  | 0 => rfl
  | n + 1 => by simp only [sumTo]; rw [sumTo_plus f g n]; omega
theorem sumTo_le {f g : Nat → Nat} : ∀ {n : Nat}, (∀ k, k < n → f k ≤ g k) → sumTo f n ≤ sumTo g n
  | 0, _ => Nat.le_refl _
  | n + 1, h => by
    have h1 := sumTo_le (f := f) (g := g) (n := n) (fun k hk => h k (by omega))
    have h2 := h n (by omega)
    simp only [sumTo]; omega
theorem sumTo_const (c : Nat) : ∀ n, sumTo (fun _ => c) n = n * c
  | 0 => by simp [sumTo]
  | n + 1 => by simp only [sumTo]; rw [sumTo_const c n, Nat.add_mul, Nat.one_mul]
theorem sumTo_mono (f : Nat → Nat) {a b : Nat} (h : a ≤ b) : sumTo f a ≤ sumTo f b := by
  rw [show b = a + (b - a) from by omega, sumTo_add]; omega
theorem sum_range (f : Nat → Nat) : ∀ n, ((List.range n).map f).sum = sumTo f n
  | 0 => rfl
  | n + 1 => by rw [List.range_succ]; simp [sum_range f n, sumTo]

theorem pop_acc (f : Nat → Bool) : ∀ n, pop n (acc f n) = sumTo (fun k => (f k).toNat) n
  | 0 => rfl
  | n + 1 => by
    simp only [acc, pop, sumTo]
    rw [show (2 * acc f n + (f n).toNat) / 2 = acc f n from by cases f n <;> simp <;> omega, pop_acc f n]
    rw [show (2 * acc f n + (f n).toNat) % 2 = (f n).toNat from by cases f n <;> simp <;> omega]
    omega

theorem pops_render (W H : Nat) (P : Nat → Nat → Bool) : pops (render W H P) = cnt W H P := by
  unfold pops render cnt
  rw [List.map_map, sum_range]
  by_cases hW : W = 0
  · subst hW
    simp [stride, sumTo, sumTo_zero]
  have hS : 0 < stride W := by unfold stride; omega
  have h1 : ∀ y, sumTo (fun j => pop 64 (wd W P y j)) (stride W) = sumTo (fun x => (P x y).toNat) W := by
    intro y
    have e1 : ∀ j, pop 64 (wd W P y j) = sumTo (fun k => (fun x => (decide (x < W) && P x y).toNat) (j * 64 + k)) 64 := by
      intro j
      unfold wd wordOf
      rw [pop_acc]
      apply sumTo_congr
      intro k _
      rw [Nat.mul_comm 64 j]
    rw [sumTo_congr (fun j _ => e1 j), sumTo_blocks (fun x => (decide (x < W) && P x y).toNat) 64]
    have e2 : stride W * 64 = W + (stride W * 64 - W) := by unfold stride; omega
    rw [e2, sumTo_add]
    rw [sumTo_congr (n := W) (g := fun x => (P x y).toNat) (fun k hk => by simp [hk])]
    rw [sumTo_congr (n := stride W * 64 - W) (g := fun _ => 0) (fun k _ => by rw [decide_eq_false (by omega)]; rfl), sumTo_zero]
    rfl
  rw [← sumTo_congr (fun y _ => h1 y), ← sumTo_blocks _ (stride W) H]
  apply sumTo_congr
  intro y _
  apply sumTo_congr
  intro j hj
  simp only [Function.comp]
  rw [at_div hj, at_mod hj]

theorem cnt_congr {W H : Nat} {P Q : Nat → Nat → Bool} (h : ∀ x y, x < W → y < H → P x y = Q x y) : cnt W H P = cnt W H Q := by
  unfold cnt
  apply sumTo_congr
  intro y hy
  apply sumTo_congr
  intro x hx
  rw [h x y hx hy]
theorem cnt_le (W H : Nat) (P : Nat → Nat → Bool) : cnt W H P ≤ H * W := by
  unfold cnt
  have h1 : ∀ y, y < H → sumTo (fun x => (P x y).toNat) W ≤ W := by
    intro y _
    have := sumTo_le (f := fun x => (P x y).toNat) (g := fun _ => 1) (n := W) (fun k _ => by cases P k y <;> simp)
    rw [sumTo_const] at this
    omega
  have := sumTo_le (n := H) (g := fun _ => W) h1
  rw [sumTo_const] at this
  exact this

/-- A pixel at any place: white outside. -/
def getPix (W H : Nat) (P : Nat → Nat → Bool) (x y : Int) : Bool := decide (0 ≤ x ∧ x < W ∧ 0 ≤ y ∧ y < H) && P x.toNat y.toNat
def cropPix (W H : Nat) (P : Nat → Nat → Bool) (x y : Int) : Nat → Nat → Bool := fun a b => getPix W H P (x + a) (y + b)
theorem getPix_in {W H : Nat} {P : Nat → Nat → Bool} {x y : Nat} (hx : x < W) (hy : y < H) : getPix W H P x y = P x y := by
  unfold getPix
  rw [decide_eq_true (by omega)]; simp
theorem getPix_out {W H : Nat} {P : Nat → Nat → Bool} {x y : Int} (h : ¬ (0 ≤ x ∧ x < W ∧ 0 ≤ y ∧ y < H)) : getPix W H P x y = false := by
  unfold getPix
  rw [decide_eq_false h]; rfl
theorem crop_crop (W H w h : Nat) (P : Nat → Nat → Bool) (x y : Int) (u v : Nat) : ∀ a b, a < w - u → b < h - v → cropPix w h (cropPix W H P x y) u v a b = cropPix W H P (x + u) (y + v) a b := by
  intro a b ha hb
  show getPix w h _ ((u : Int) + a) ((v : Int) + b) = _
  rw [show (u : Int) + a = ((u + a : Nat) : Int) from by omega, show (v : Int) + b = ((v + b : Nat) : Int) from by omega, getPix_in (by omega) (by omega)]
  unfold cropPix
  rw [show x + ((u + a : Nat) : Int) = x + u + a from by omega, show y + ((v + b : Nat) : Int) = y + v + b from by omega]

end Go.Proofs.Ytpblenebmjmijaa
