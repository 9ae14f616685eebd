/- Plain mathematics of rasters: words of 64 pixels, the highest bit first; a raster as the words of a function of places. -/
import Derived.WalkKit
import Derived.WalkSpells
import Derived.WalkLawsBesides
import Derived.Test.YtkggdnkmaldmlabRows
import Derived.Deep.QuietTactic
import Derived.BigQuiet
import Derived.BigRegion
import Derived.Laws.Bits128
namespace Go.Proofs.Ytkggdnkmaldmlab

def acc (f : Nat → Bool) : Nat → Nat
  | 0 => 0
  | n + 1 => 2 * acc f n + (f n).toNat

theorem acc_lt (f : Nat → Bool) : ∀ n, acc f n < 2 ^ n
  | 0 => by simp [acc]
  | n + 1 => by
    have := acc_lt f n
    have h2 : (f n).toNat ≤ 1 := by cases f n <;> simp
    simp only [acc, Nat.pow_succ]; omega

theorem testBit_acc (f : Nat → Bool) : ∀ n i, (acc f n).testBit i = (decide (i < n) && f (n - 1 - i))
  | 0, i => by simp [acc]
  | n + 1, 0 => by
    simp only [acc, Nat.testBit_zero]
    cases h : f n <;> simp [h] <;> omega
  | n + 1, i + 1 => by
    simp only [acc, Nat.testBit_succ]
    rw [show (2 * acc f n + (f n).toNat) / 2 = acc f n from by cases f n <;> simp <;> omega, testBit_acc f n i]
    rw [show n + 1 - 1 - (i + 1) = n - 1 - i from by omega]
    simp

/-- The word whose pixels are f 0 .. f 63. -/
def wordOf (f : Nat → Bool) : Nat := acc f 64
theorem wordOf_lt (f : Nat → Bool) : wordOf f < 18446744073709551616 := acc_lt f 64
theorem testBit_wordOf (f : Nat → Bool) (i : Nat) : (wordOf f).testBit i = (decide (i < 64) && f (63 - i)) := testBit_acc f 64 i

theorem word_eq {x : Nat} {f : Nat → Bool} (hx : x < 18446744073709551616) (h : ∀ k, k < 64 → x.testBit (63 - k) = f k) : x = wordOf f := by
  apply Nat.eq_of_testBit_eq
  intro i
  rw [testBit_wordOf]
  by_cases hi : i < 64
  · have := h (63 - i) (by omega)
    rw [show 63 - (63 - i) = i from by omega] at this
    simp [this, hi]
  · have : x.testBit i = false := Nat.testBit_lt_two_pow (Nat.lt_of_lt_of_le hx (by rw [show (18446744073709551616 : Nat) = 2 ^ 64 from rfl]; exact Nat.pow_le_pow_right (by omega) (by omega)))
    simp [this, hi]
theorem wordOf_congr {f g : Nat → Bool} (h : ∀ k, k < 64 → f k = g k) : wordOf f = wordOf g :=
  word_eq (wordOf_lt f) (fun k hk => by rw [testBit_wordOf, show 63 - (63 - k) = k from by omega]; simp [show 63 - k < 64 from by omega, h k hk])
theorem bit_wordOf (f : Nat → Bool) (k : Nat) (hk : k < 64) : (wordOf f).testBit (63 - k) = f k := by
  rw [testBit_wordOf, show 63 - (63 - k) = k from by omega]; simp [show 63 - k < 64 from by omega]
theorem wordOf_false : wordOf (fun _ => false) = 0 := by decide +kernel

def stride (W : Nat) : Nat := (W + 63) / 64

/-- Word j of row y. -/
def wd (W : Nat) (P : Nat → Nat → Bool) (y j : Nat) : Nat := wordOf fun k => decide (64 * j + k < W) && P (64 * j + k) y

/-- All words of a raster. -/
def render (W H : Nat) (P : Nat → Nat → Bool) : List Nat := (List.range (H * stride W)).map fun i => wd W P (i / stride W) (i % stride W)

theorem length_render (W H : Nat) (P : Nat → Nat → Bool) : (render W H P).length = H * stride W := by simp [render]
theorem wd_lt (W : Nat) (P : Nat → Nat → Bool) (y j : Nat) : wd W P y j < 18446744073709551616 := wordOf_lt _
theorem render_lt {W H : Nat} {P : Nat → Nat → Bool} : ∀ x ∈ render W H P, x < 18446744073709551616 := by
  intro x hx
  simp only [render, List.mem_map] at hx
  obtain ⟨_, _, rfl⟩ := hx
  exact wordOf_lt _
theorem stride_pos {W : Nat} (h : 0 < W) : 0 < stride W := by unfold stride; omega
theorem at_lt {W H y j : Nat} (hy : y < H) (hj : j < stride W) : y * stride W + j < H * stride W := by
  have : (y + 1) * stride W ≤ H * stride W := Nat.mul_le_mul_right _ hy
  rw [Nat.add_mul] at this; omega
theorem at_div {W y j : Nat} (hj : j < stride W) : (y * stride W + j) / stride W = y := by
  rw [Nat.mul_comm, Nat.mul_add_div (by omega), Nat.div_eq_of_lt hj, Nat.add_zero]
theorem at_mod {W y j : Nat} (hj : j < stride W) : (y * stride W + j) % stride W = j := by
  rw [Nat.mul_comm, Nat.mul_add_mod, Nat.mod_eq_of_lt hj]
theorem render_get {W H y j : Nat} (P : Nat → Nat → Bool) (hy : y < H) (hj : j < stride W) : (render W H P)[y * stride W + j]? = some (wd W P y j) := by
  unfold render
  rw [List.getElem?_map, List.getElem?_range (at_lt hy hj)]
  simp [at_div hj, at_mod hj]
theorem render_get' {W H i : Nat} (P : Nat → Nat → Bool) (hi : i < H * stride W) : (render W H P)[i]? = some (wd W P (i / stride W) (i % stride W)) := by
  unfold render
  rw [List.getElem?_map, List.getElem?_range hi]
  rfl
theorem wd_congr {W : Nat} {P Q : Nat → Nat → Bool} {y j : Nat} (h : ∀ x, x < W → P x y = Q x y) : wd W P y j = wd W Q y j := by
  apply wordOf_congr
  intro k _
  by_cases hx : 64 * j + k < W
  · simp [hx, h _ hx]
  · simp [hx]
theorem render_congr {W H : Nat} {P Q : Nat → Nat → Bool} (h : ∀ x y, x < W → y < H → P x y = Q x y) : render W H P = render W H Q := by
  apply List.map_congr_left
  intro i hi
  have hi' : i < H * stride W := by simpa using hi
  apply wd_congr
  intro x hx
  apply h x _ hx
  by_cases hs : stride W = 0
  · rw [hs] at hi'; omega
  · exact (Nat.div_lt_iff_lt_mul (by omega)).2 hi'
theorem div_lt_of {a b c : Nat} (h : a < b * c) : a / c < b := by
  by_cases hc : c = 0
  · subst hc; omega
  · exact (Nat.div_lt_iff_lt_mul (by omega)).2 h

/-- A word is written: the raster whose pixels it has. -/
theorem render_set {W H y j x : Nat} {P Q : Nat → Nat → Bool} (hy : y < H) (hj : j < stride W) (hx : x < 18446744073709551616)
    (hw : ∀ k, k < 64 → x.testBit (63 - k) = (decide (64 * j + k < W) && Q (64 * j + k) y)) (ho : ∀ a b, a < W → b < H → ¬ (b = y ∧ a / 64 = j) → Q a b = P a b) :
    (render W H P).set (y * stride W + j) x = render W H Q := by
  apply List.ext_getElem?
  intro i
  rw [List.getElem?_set]
  by_cases hi : y * stride W + j = i
  · subst hi
    rw [if_pos rfl, if_pos (by rw [length_render]; exact at_lt hy hj), render_get Q hy hj, word_eq hx hw]
    rfl
  · rw [if_neg hi]
    by_cases hl : i < H * stride W
    · rw [render_get' P hl, render_get' Q hl]
      refine congrArg some ?_
      refine wordOf_congr ?_
      intro k hk
      by_cases hxx : 64 * (i % stride W) + k < W
      · simp only [hxx, decide_true, Bool.true_and]
        refine (ho _ _ hxx (div_lt_of hl) ?_).symm
        rintro ⟨h1, h2⟩
        apply hi
        have h3 : i % stride W = j := by omega
        have := Nat.div_add_mod i (stride W)
        rw [h1, h3, Nat.mul_comm] at this
        exact this
      · simp [hxx]
    · rw [List.getElem?_eq_none (by rw [length_render]; omega), List.getElem?_eq_none (by rw [length_render]; omega)]

/-- The pixel of a raster's word. -/
theorem pix_wd {W x y : Nat} (P : Nat → Nat → Bool) (hx : x < W) : (wd W P y (x / 64)).testBit (63 - x % 64) = P x y := by
  unfold wd
  rw [bit_wordOf _ _ (by omega), show 64 * (x / 64) + x % 64 = x from by omega]
  simp [hx]
theorem render_inj {W H : Nat} {P Q : Nat → Nat → Bool} (h : render W H P = render W H Q) : ∀ x y, x < W → y < H → P x y = Q x y := by
  intro x y hx hy
  have hj : x / 64 < stride W := by unfold stride; omega
  have h1 := render_get P hy hj
  rw [h, render_get Q hy hj] at h1
  rw [← pix_wd P hx, ← pix_wd Q hx]
  simp only [Option.some.injEq] at h1
  rw [h1]

/-- How many bits are 1. -/
def pop : Nat → Nat → Nat
  | 0, _ => 0
  | n + 1, x => x % 2 + pop n (x / 2)
def pops (l : List Nat) : Nat := (l.map (pop 64)).sum

theorem pop_zero : ∀ n, pop n 0 = 0
  | 0 => rfl
  | n + 1 => by simp [pop, pop_zero n]
theorem pop_le : ∀ n x, pop n x ≤ n
  | 0, _ => Nat.le_refl _
  | n + 1, x => by have := pop_le n (x / 2); simp only [pop]; omega
theorem pops_le (l : List Nat) : pops l ≤ 64 * l.length := by
  induction l with
  | nil => simp [pops]
  | cons a t ih =>
    have h1 : pops (a :: t) = pop 64 a + pops t := by simp [pops]
    have h2 := pop_le 64 a
    have h3 : (a :: t).length = t.length + 1 := rfl
    omega
theorem pops_take_succ {l : List Nat} {k x : Nat} (h : l[k]? = some x) : pops (l.take (k + 1)) = pops (l.take k) + pop 64 x := by
  unfold pops
  rw [List.take_add_one, h]
  simp
theorem pops_append (a b : List Nat) : pops (a ++ b) = pops a + pops b := by simp [pops]

end Go.Proofs.Ytkggdnkmaldmlab

namespace Go.Proofs.Ytkggdnkmaldmlab

/-- The pixel at any place; 0 outside. -/
def pixI (W H : Nat) (P : Nat → Nat → Bool) (x y : Int) : Nat := if 0 ≤ x ∧ x < W ∧ 0 ≤ y ∧ y < H then (P x.toNat y.toNat).toNat else 0
theorem pixI_le (W H : Nat) (P : Nat → Nat → Bool) (x y : Int) : pixI W H P x y ≤ 1 := by
  unfold pixI; split
  · exact Bool.toNat_le _
  · omega

/-- `n` more binary digits. -/
def gathN (p : Nat → Nat) : Nat → Nat → Nat
  | 0, a => a
  | n + 1, a => 2 * gathN p n a + p n
theorem gathN_lt (p : Nat → Nat) (hp : ∀ k, p k ≤ 1) (m a : Nat) (ha : a < 2 ^ m) : ∀ n, gathN p n a < 2 ^ (m + n)
  | 0 => ha
  | n + 1 => by
    have h1 := gathN_lt p hp m a ha n
    have h2 := hp n
    rw [gathN, ← Nat.add_assoc, Nat.pow_succ]; omega
theorem gathN_split (p : Nat → Nat) (a : Nat) : ∀ n, gathN p n a = a * 2 ^ n + gathN p n 0
  | 0 => by simp [gathN]
  | n + 1 => by
    rw [gathN, gathN, gathN_split p a n, Nat.pow_succ, Nat.mul_add, ← Nat.mul_assoc a, Nat.mul_comm (a * 2 ^ n) 2, Nat.add_assoc]
theorem gathN_congr {p q : Nat → Nat} (a : Nat) : ∀ n, (∀ k, k < n → p k = q k) → gathN p n a = gathN q n a
  | 0, _ => rfl
  | n + 1, h => by rw [gathN, gathN, gathN_congr a n (fun k hk => h k (by omega)), h n (by omega)]
theorem gathN_front (p : Nat → Nat) : ∀ m n, gathN p (m + n) 0 = gathN p m 0 * 2 ^ n + gathN (fun k => p (m + k)) n 0
  | m, 0 => by simp [gathN]
  | m, n + 1 => by
    rw [← Nat.add_assoc, gathN, gathN, gathN_front p m n, Nat.pow_succ, Nat.mul_add, ← Nat.mul_assoc (gathN p m 0), Nat.mul_comm (gathN p m 0 * 2 ^ n) 2, Nat.add_assoc]
theorem gathN_mod (p : Nat → Nat) (hp : ∀ k, p k ≤ 1) (m n : Nat) : gathN p (m + n) 0 % 2 ^ n = gathN (fun k => p (m + k)) n 0 := by
  have h := gathN_lt (fun k => p (m + k)) (fun k => hp _) 0 0 (by decide) n
  rw [gathN_front, Nat.add_comm, Nat.add_mul_mod_self_right, Nat.mod_eq_of_lt (by simpa using h)]
theorem gathN_step (p : Nat → Nat) (j c : Nat) : gathN p (j + 1) 0 % 2 ^ c = (2 * (gathN p j 0 % 2 ^ c) + p j) % 2 ^ c := by
  rw [gathN, Nat.add_mod, Nat.mul_mod, Nat.add_mod (2 * (gathN p j 0 % 2 ^ c)), Nat.mul_mod 2 (gathN p j 0 % 2 ^ c), Nat.mod_mod]
theorem gathN_zero {p : Nat → Nat} : ∀ n, (∀ k, k < n → p k = 0) → gathN p n 0 = 0
  | 0, _ => rfl
  | n + 1, h => by rw [gathN, gathN_zero n (fun k hk => h k (by omega)), h n (by omega)]

/-- The first and the last place of a template's row. -/
def fstS : Nat → Nat → Int
  | 0, 0 => -2 | 0, 1 => -3 | 0, _ => -4
  | 1, 0 => -1 | 1, 1 => -2 | 1, _ => -3
  | 2, 0 => -1 | 2, 1 => -2 | 2, _ => -2
  | _, 0 => 0 | _, 1 => -3 | _, _ => -4
def lstS : Nat → Nat → Int
  | 0, 0 => 2 | 0, 1 => 3 | 0, _ => -1
  | 1, 0 => 2 | 1, 1 => 3 | 1, _ => -1
  | 2, 0 => 1 | 2, 1 => 2 | 2, _ => -1
  | _, 0 => -1 | _, 1 => 2 | _, _ => -1
def cntS (t i : Nat) : Nat := (lstS t i - fstS t i + 1).toNat

theorem span_facts (t i : Nat) (ht : t < 4) (hi : i < 3) : -4 ≤ fstS t i ∧ fstS t i ≤ 0 ∧ -1 ≤ lstS t i ∧ lstS t i ≤ 3 ∧ lstS t i - fstS t i + 1 = (cntS t i : Int) ∧ cntS t i ≤ 7 := by
  have h : ∀ t, t < 4 → ∀ i, i < 3 → -4 ≤ fstS t i ∧ fstS t i ≤ 0 ∧ -1 ≤ lstS t i ∧ lstS t i ≤ 3 ∧ lstS t i - fstS t i + 1 = (cntS t i : Int) ∧ cntS t i ≤ 7 := by decide
  exact h t ht i hi
theorem last_own (t : Nat) : lstS t 2 = -1 := by
  match t with
  | 0 => rfl | 1 => rfl | 2 => rfl | _ + 3 => rfl

/-- A context behind `k` rows of a template. -/
def ctxK (q : Int → Int → Nat) (t : Nat) (x y : Int) : Nat → Nat
  | 0 => 0
  | k + 1 => gathN (fun j => q (x + fstS t k + j) (y - 2 + k)) (cntS t k) (ctxK q t x y k)
def ctx (q : Int → Int → Nat) (t : Nat) (x y : Int) : Nat := ctxK q t x y 3
def bitsK (t : Nat) : Nat → Nat
  | 0 => 0
  | k + 1 => bitsK t k + cntS t k
def sizeT (t : Nat) : Nat := 2 ^ bitsK t 3
theorem bits_le (t : Nat) (ht : t < 4) : bitsK t 3 ≤ 16 := by
  have h : ∀ t, t < 4 → bitsK t 3 ≤ 16 := by decide
  exact h t ht
theorem bitsK_le (t k : Nat) (ht : t < 4) (hk : k ≤ 3) : bitsK t k ≤ 16 := by
  have h : ∀ t, t < 4 → ∀ k, k < 4 → bitsK t k ≤ 16 := by decide
  exact h t ht k (by omega)
theorem ctxK_lt (q : Int → Int → Nat) (hq : ∀ x y, q x y ≤ 1) (t : Nat) (x y : Int) : ∀ k, ctxK q t x y k < 2 ^ bitsK t k
  | 0 => by simp [ctxK, bitsK]
  | k + 1 => gathN_lt _ (fun _ => hq _ _) _ _ (ctxK_lt q hq t x y k) _
theorem ctx_lt (q : Int → Int → Nat) (hq : ∀ x y, q x y ≤ 1) (t : Nat) (x y : Int) : ctx q t x y < sizeT t := ctxK_lt q hq t x y 3
theorem ctxK_zero (q : Int → Int → Nat) (t : Nat) (x y : Int) (ht : t < 4) : ∀ k, k ≤ 3 → (∀ i : Nat, i < 3 → ∀ d : Int, -4 ≤ d → d ≤ 3 → q (x + d) (y - 2 + i) = 0) → ctxK q t x y k = 0
  | 0, _, _ => rfl
  | k + 1, hk, h => by
    rw [ctxK, ctxK_zero q t x y ht k (by omega) h]
    refine gathN_zero _ fun j hj => ?_
    have hs := span_facts t k ht (by omega)
    have := h k (by omega) (fstS t k + j) (by omega) (by omega)
    rw [← this]; congr 1; omega
theorem ctx_zero (q : Int → Int → Nat) (t : Nat) (x y : Int) (ht : t < 4) (h : ∀ i : Nat, i < 3 → ∀ d : Int, -4 ≤ d → d ≤ 3 → q (x + d) (y - 2 + i) = 0) : ctx q t x y = 0 := ctxK_zero q t x y ht 3 (by omega) h
/-- Far away all is white. -/
theorem ctx_far (W H : Nat) (P : Nat → Nat → Bool) (t : Nat) (x y : Int) (ht : t < 4) (h : x < -3 ∨ W + 3 < x ∨ y < 0 ∨ H + 1 < y) : ctx (pixI W H P) t x y = 0 := by
  refine ctx_zero _ t x y ht fun i hi d h1 h2 => ?_
  unfold pixI
  rw [if_neg]
  omega
theorem ctxK_congr (q r : Int → Int → Nat) (t : Nat) (x y : Int) (ht : t < 4) : ∀ k, k ≤ 3 → (∀ a b : Int, (b < y ∨ (b = y ∧ a < x)) → q a b = r a b) → ctxK q t x y k = ctxK r t x y k
  | 0, _, _ => rfl
  | k + 1, hk, h => by
    rw [ctxK, ctxK, ctxK_congr q r t x y ht k (by omega) h]
    refine gathN_congr _ _ fun j hj => h _ _ ?_
    have hs := span_facts t k ht (by omega)
    have hl := last_own t
    rcases Nat.lt_or_ge k 2 with h2 | h2
    · left; omega
    · obtain rfl : k = 2 := by omega
      right; omega
/-- A context hangs on pixels ahead of its own alone. -/
theorem ctx_congr (q r : Int → Int → Nat) (t : Nat) (x y : Int) (ht : t < 4) (h : ∀ a b : Int, (b < y ∨ (b = y ∧ a < x)) → q a b = r a b) : ctx q t x y = ctx r t x y := ctxK_congr q r t x y ht 3 (by omega) h
theorem ctxK_moved (q r : Int → Int → Nat) (t : Nat) (x y dx dy : Int) (h : ∀ a b : Int, r (a + dx) (b + dy) = q a b) : ∀ k, ctxK r t (x + dx) (y + dy) k = ctxK q t x y k
  | 0 => rfl
  | k + 1 => by
    rw [ctxK, ctxK, ctxK_moved q r t x y dx dy h k]
    refine gathN_congr _ _ fun j hj => ?_
    rw [← h]
    congr 1 <;> omega
/-- Contexts go with the picture. -/
theorem ctx_moved (q r : Int → Int → Nat) (t : Nat) (x y dx dy : Int) (h : ∀ a b : Int, r (a + dx) (b + dy) = q a b) : ctx r t (x + dx) (y + dy) = ctx q t x y := ctxK_moved q r t x y dx dy h 3

/-- A row's pixel, by its words. -/
def rowpix (l : List Nat) (x : Int) : Nat := if 0 ≤ x ∧ x < l.length * 64 then (l[x.toNat / 64]?.getD 0) / 2 ^ (63 - x.toNat % 64) % 2 else 0
theorem rowpix_le (l : List Nat) (x : Int) : rowpix l x ≤ 1 := by unfold rowpix; split <;> omega
def rowL (W H : Nat) (P : Nat → Nat → Bool) (y : Int) : List Nat := if 0 ≤ y ∧ y < H then (List.range (stride W)).map fun j => wd W P y.toNat j else []
theorem rowpix_pixI (W H : Nat) (P : Nat → Nat → Bool) (x y : Int) : rowpix (rowL W H P y) x = pixI W H P x y := by
  unfold rowpix rowL pixI
  by_cases hy : 0 ≤ y ∧ y < H
  · rw [if_pos hy]
    simp only [List.length_map, List.length_range]
    by_cases hx : 0 ≤ x ∧ x < stride W * 64
    · rw [if_pos hx]
      have hj : x.toNat / 64 < stride W := by omega
      rw [List.getElem?_map, List.getElem?_range hj]
      simp only [Option.map_some, Option.getD_some]
      rw [← Nat.toNat_testBit]
      unfold wd
      rw [bit_wordOf _ _ (by omega)]
      have e : 64 * (x.toNat / 64) + x.toNat % 64 = x.toNat := by omega
      rw [e]
      by_cases hw : x < W
      · rw [if_pos ⟨hx.1, hw, hy.1, hy.2⟩, decide_eq_true (by omega), Bool.true_and]
      · rw [if_neg (by omega), decide_eq_false (by omega), Bool.false_and]; rfl
    · rw [if_neg hx, if_neg]
      unfold stride at hx
      omega
  · rw [if_neg hy, if_neg (c := 0 ≤ x ∧ x < W ∧ 0 ≤ y ∧ y < H) (by omega), if_neg]
    simp
theorem rowL_length (W H : Nat) (P : Nat → Nat → Bool) (y : Int) : (rowL W H P y).length ≤ stride W := by
  unfold rowL; split <;> simp

end Go.Proofs.Ytkggdnkmaldmlab

/- Bitmaps by decisions, as plain functions. -/
namespace Go.Proofs.Ytkggdnkmaldmlab

/-- The pixel at any place of a bitmap that has no last row; 0 outside. -/
def pixJ (W : Nat) (P : Nat → Nat → Bool) (x y : Int) : Nat := if 0 ≤ x ∧ x < W ∧ 0 ≤ y then (P x.toNat y.toNat).toNat else 0
theorem pixJ_le (W : Nat) (P : Nat → Nat → Bool) (x y : Int) : pixJ W P x y ≤ 1 := by
  unfold pixJ; split
  · exact Bool.toNat_le _
  · omega
/-- The context of a pixel, by the pixels ahead of it. -/
def cxJ (W : Nat) (P : Nat → Nat → Bool) (t x y : Nat) : Nat := ctx (pixJ W P) t x y
theorem cxJ_lt (W : Nat) (P : Nat → Nat → Bool) (t x y : Nat) : cxJ W P t x y < sizeT t := ctx_lt _ (pixJ_le W P) t x y
theorem cxJ_pixI (W H : Nat) (P : Nat → Nat → Bool) (t x y : Nat) (ht : t < 4) (hy : y < H) : ctx (pixI W H P) t x y = cxJ W P t x y := by
  refine ctx_congr _ _ t x y ht fun a b hab => ?_
  unfold pixI pixJ
  by_cases h : 0 ≤ a ∧ a < W ∧ 0 ≤ b
  · rw [if_pos h, if_pos (by omega)]
  · rw [if_neg h, if_neg (by omega)]
theorem cxJ_congr (W : Nat) (P Q : Nat → Nat → Bool) (t x y : Nat) (ht : t < 4) (h : ∀ a b : Nat, a < W → (b < y ∨ (b = y ∧ a < x)) → P a b = Q a b) : cxJ W P t x y = cxJ W Q t x y := by
  refine ctx_congr _ _ t x y ht fun a b hab => ?_
  unfold pixJ
  by_cases hh : 0 ≤ a ∧ a < W ∧ 0 ≤ b
  · rw [if_pos hh, if_pos hh, h a.toNat b.toNat (by omega) (by omega)]
  · rw [if_neg hh, if_neg hh]
/-- A context is gathered from three rows alone. -/
theorem ctxK_near (q r : Int → Int → Nat) (t : Nat) (x y : Int) (ht : t < 4) : ∀ k, k ≤ 3 → (∀ a b : Int, y - 2 ≤ b → (b < y ∨ (b = y ∧ a < x)) → q a b = r a b) → ctxK q t x y k = ctxK r t x y k
  | 0, _, _ => rfl
  | k + 1, hk, h => by
    rw [ctxK, ctxK, ctxK_near q r t x y ht k (by omega) h]
    refine gathN_congr _ _ fun j hj => h _ _ (by omega) ?_
    have hs := span_facts t k ht (by omega)
    have hl := last_own t
    rcases Nat.lt_or_ge k 2 with h2 | h2
    · left; omega
    · obtain rfl : k = 2 := by omega
      right; omega
theorem ctx_near (q r : Int → Int → Nat) (t : Nat) (x y : Int) (ht : t < 4) (h : ∀ a b : Int, y - 2 ≤ b → (b < y ∨ (b = y ∧ a < x)) → q a b = r a b) : ctx q t x y = ctx r t x y := ctxK_near q r t x y ht 3 (by omega) h
/-- The rows that a context hangs on, handed on alone. -/
theorem cxJ_part (W : Nat) (P : Nat → Nat → Bool) (t x y f : Nat) (ht : t < 4) (hf : f = y - 2) : ctx (pixI W (y + 1 - f) (fun a e => P a (e + f))) t x ((y - f : Nat) : Int) = cxJ W P t x y := by
  have hm := ctx_moved (fun a b => if b < f then 0 else pixJ W P a b) (pixI W (y + 1 - f) (fun a e => P a (e + f))) t x y 0 (-(f : Int))
  have e1 : ((y - f : Nat) : Int) = (y : Int) + -(f : Int) := by omega
  rw [e1, ← Int.add_zero (x : Int)]
  have hx := ctx_congr (pixI W (y + 1 - f) (fun a e => P a (e + f))) (fun a b => if b < 0 then 0 else pixJ W P a (b + f)) t ((x : Int) + 0) ((y : Int) + -(f : Int)) ht (fun a b hab => by
    unfold pixI pixJ
    by_cases hh : 0 ≤ a ∧ a < W ∧ 0 ≤ b
    · rw [if_pos (by omega), if_neg (by omega), if_pos (by omega)]
      rw [show (b + (f : Int)).toNat = b.toNat + f by omega]
    · rw [if_neg (by omega)]
      by_cases hb : b < 0
      · rw [if_pos hb]
      · rw [if_neg hb, if_neg (by omega)])
  rw [hx, ctx_moved (fun a b => if b < f then 0 else pixJ W P a b) (fun a b => if b < 0 then 0 else pixJ W P a (b + f)) t x y 0 (-(f : Int)) (fun a b => by
    by_cases hb : b < f
    · rw [if_pos hb, if_pos (by omega)]
    · rw [if_neg hb, if_neg (by omega), Int.add_zero, show b + -(f : Int) + f = b by omega])]
  unfold cxJ
  refine ctx_near _ _ t x y ht fun a b h1 _ => ?_
  show (if b < f then 0 else pixJ W P a b) = pixJ W P a b
  by_cases hb : b < f
  · rw [if_pos hb]
    unfold pixJ
    rw [if_neg (by omega)]
  · rw [if_neg hb]

/-- The part of a context that is pixels of the row itself. -/
def ownJ (W : Nat) (P : Nat → Nat → Bool) (t x y : Nat) : Nat := gathN (fun j => pixJ W P ((x : Int) + fstS t 2 + j) y) (cntS t 2) 0
theorem own_cnt (t : Nat) : fstS t 2 = -(cntS t 2 : Int) ∧ 2 ≤ cntS t 2 ∧ cntS t 2 ≤ 4 := by
  match t with
  | 0 => decide
  | 1 => decide
  | 2 => decide
  | _ + 3 => exact (show _ from by decide : fstS 3 2 = -(cntS 3 2 : Int) ∧ 2 ≤ cntS 3 2 ∧ cntS 3 2 ≤ 4)
theorem ownJ_lt (W : Nat) (P : Nat → Nat → Bool) (t x y : Nat) : ownJ W P t x y < 2 ^ cntS t 2 := by
  have := gathN_lt (fun j => pixJ W P ((x : Int) + fstS t 2 + j) y) (fun _ => pixJ_le _ _ _ _) 0 0 (by decide) (cntS t 2)
  simpa [ownJ] using this
theorem cxJ_split (W : Nat) (P : Nat → Nat → Bool) (t x y : Nat) : cxJ W P t x y = ctxK (pixJ W P) t x y 2 * 2 ^ cntS t 2 + ownJ W P t x y := by
  unfold cxJ ctx ownJ
  rw [ctxK, gathN_split]
  simp only [Int.sub_add_cancel, show ((2 : Nat) : Int) = 2 from rfl]
theorem ownJ_zero (W : Nat) (P : Nat → Nat → Bool) (t y : Nat) : ownJ W P t 0 y = 0 := by
  refine gathN_zero _ fun k hk => ?_
  have := own_cnt t
  unfold pixJ
  rw [if_neg (by omega)]
theorem ownJ_next (W : Nat) (P : Nat → Nat → Bool) (t x y : Nat) (hx : x < W) : ownJ W P t (x + 1) y = (2 * ownJ W P t x y + (P x y).toNat) % 2 ^ cntS t 2 := by
  have h := own_cnt t
  have h1 := gathN_mod (fun j => pixJ W P ((x : Int) + fstS t 2 + j) y) (fun _ => pixJ_le _ _ _ _) 1 (cntS t 2)
  unfold ownJ
  rw [show (fun j : Nat => pixJ W P (((x + 1 : Nat) : Int) + fstS t 2 + j) y) = (fun k : Nat => pixJ W P ((x : Int) + fstS t 2 + ((1 + k : Nat) : Int)) y) from funext fun k => by congr 1; omega, ← h1]
  rw [Nat.add_comm 1, gathN]
  have e : pixJ W P ((x : Int) + fstS t 2 + (cntS t 2 : Nat)) y = (P x y).toNat := by
    unfold pixJ
    rw [if_pos (by omega), show ((x : Int) + fstS t 2 + (cntS t 2 : Nat)).toNat = x by omega, Int.toNat_natCast]
  rw [e]
theorem gathN_or {p q : Nat → Nat} (hq : ∀ k, q k ≤ 1) (h : ∀ k, p k ≤ q k) : ∀ n, gathN p n 0 ||| gathN q n 0 = gathN q n 0
  | 0 => by simp [gathN]
  | n + 1 => by
    have ih := gathN_or hq h n
    rw [gathN, gathN]
    have h1 := h n
    have h2 := hq n
    apply Nat.eq_of_testBit_eq
    intro i
    rw [Nat.testBit_or]
    cases i with
    | zero =>
      rcases (show p n = 0 ∨ p n = 1 by omega) with e1 | e1 <;> rcases (show q n = 0 ∨ q n = 1 by omega) with e2 | e2 <;> simp [Nat.testBit_zero, e1, e2] <;> omega
    | succ i =>
      rw [Nat.testBit_succ, Nat.testBit_succ, show (2 * gathN p n 0 + p n) / 2 = gathN p n 0 by omega, show (2 * gathN q n 0 + q n) / 2 = gathN q n 0 by omega, ← Nat.testBit_or, ih]
/-- The pixels that have come are laid over the context as it stood. -/
theorem cxJ_or (W : Nat) (P Q : Nat → Nat → Bool) (t x y : Nat) (_ht : t < 4) (h1 : ∀ a b : Nat, a < W → b < y → P a b = Q a b) (h2 : ∀ a : Nat, a < W → a < x → P a y = true → Q a y = true) : cxJ W P t x y ||| ownJ W Q t x y = cxJ W Q t x y := by
  have hk : ctxK (pixJ W P) t x y 2 = ctxK (pixJ W Q) t x y 2 := by
    rw [ctxK, ctxK, ctxK, ctxK, ctxK, ctxK]
    have g : ∀ (a b : Int), b < y → pixJ W P a b = pixJ W Q a b := fun a b hb => by
      unfold pixJ
      by_cases hh : 0 ≤ a ∧ a < W ∧ 0 ≤ b
      · rw [if_pos hh, if_pos hh, h1 a.toNat b.toNat (by omega) (by omega)]
      · rw [if_neg hh, if_neg hh]
    rw [gathN_congr _ _ (fun k _ => g _ _ (by omega)), gathN_congr _ _ (fun k _ => g _ _ (by omega))]
  rw [cxJ_split, cxJ_split, hk]
  have ho : ownJ W P t x y ||| ownJ W Q t x y = ownJ W Q t x y := by
    unfold ownJ
    rw [gathN_congr (p := fun j => pixJ W P ((x : Int) + fstS t 2 + j) y) (q := fun j => if (x : Int) + fstS t 2 + j < x then pixJ W P ((x : Int) + fstS t 2 + j) y else 0) 0 (cntS t 2) (fun k hk => by
      have := own_cnt t
      show _ = if _ then _ else _
      rw [if_pos (by omega)])]
    refine gathN_or (fun _ => pixJ_le _ _ _ _) (fun k => ?_) _
    by_cases hx : (x : Int) + fstS t 2 + k < x
    · rw [if_pos hx]
      unfold pixJ
      by_cases hh : 0 ≤ (x : Int) + fstS t 2 + k ∧ (x : Int) + fstS t 2 + k < W ∧ 0 ≤ (y : Int)
      · rw [if_pos hh, if_pos hh, Int.toNat_natCast]
        have := h2 ((x : Int) + fstS t 2 + k).toNat (by omega) (by omega)
        cases hP : P ((x : Int) + fstS t 2 + k).toNat y
        · simp
        · rw [this hP]; exact Nat.le_refl _
      · rw [if_neg hh]; omega
    · rw [if_neg hx]; omega
  have hl := ownJ_lt W P t x y
  have hl2 := ownJ_lt W Q t x y
  rw [Nat.mul_comm, Nat.two_pow_add_eq_or_of_lt hl, Nat.two_pow_add_eq_or_of_lt hl2, Nat.or_assoc, ho]

end Go.Proofs.Ytkggdnkmaldmlab

/- What stays of memory where some blocks are written: 'Fr S w w''; a map's blocks as a raster. -/
namespace Go.Proofs.Ytkggdnkmaldmlab
open Go.RowKit

/-- All blocks that there were, but for those of S, are as they were. -/
structure Fr (S : Nat → Prop) (w w' : World) : Prop where
  os : w'.os = w.os
  tape : w'.tape = w.tape
  output : w'.output = w.output
  size : w.heap.size ≤ w'.heap.size
  block : ∀ k, k < w.heap.size → ¬ S k → w'.heap[k]? = w.heap[k]?

theorem Fr.refl (S : Nat → Prop) (w : World) : Fr S w w := ⟨rfl, rfl, rfl, Nat.le_refl _, fun _ _ _ => rfl⟩
theorem Fr.trans {S T : Nat → Prop} {a b c : World} (h : Fr S a b) (k : Fr T b c) (hs : ∀ i, i < a.heap.size → T i → S i) : Fr S a c :=
  ⟨k.os.trans h.os, k.tape.trans h.tape, k.output.trans h.output, Nat.le_trans h.size k.size, fun i hi hn => (k.block i (Nat.lt_of_lt_of_le hi h.size) (fun ht => hn (hs i hi ht))).trans (h.block i hi hn)⟩
theorem Fr.mono {S T : Nat → Prop} {a b : World} (h : Fr S a b) (hs : ∀ i, i < a.heap.size → S i → T i) : Fr T a b :=
  ⟨h.os, h.tape, h.output, h.size, fun i hi hn => h.block i hi (fun hh => hn (hs i hi hh))⟩
theorem Fr.drew {S : Nat → Prop} {a b : World} (h : Fr S a b) : Fr S a b.drew := ⟨h.os, h.tape, h.output, h.size, h.block⟩
theorem Fr.drewN {S : Nat → Prop} {a b : World} (h : Fr S a b) (n : Nat) : Fr S a (b.drewN n) := ⟨h.os, h.tape, h.output, h.size, h.block⟩
theorem Fr.alloc {S : Nat → Prop} {a b : World} (h : Fr S a b) (o : Obj) : Fr S a (b.alloc o) :=
  h.trans (T := fun _ => False) ⟨rfl, rfl, rfl, by simp, fun k hk _ => Below.heap_alloc _ _ _ hk⟩ (fun _ _ hh => hh.elim)
theorem Fr.setCell {S : Nat → Prop} {a b : World} (h : Fr S a b) {p : Addr} (hp : p.block < a.heap.size → S p.block) (u : Value) : Fr S a (b.setCell p u) :=
  h.trans (T := fun k => k = p.block) ⟨rfl, rfl, rfl, by simp [World.setCell], fun k _ hn => Below.heap_setCell _ _ _ _ hn⟩ (fun i hi e => by subst e; exact hp hi)
theorem Fr.grown {S : Nat → Prop} {a b c : World} {row : Option Nat} (h : Fr S a b) (hg : b.grownBy c row) (hr : ∀ k, row = some k → k < a.heap.size → S k) : Fr S a c :=
  h.trans (T := fun k => row = some k) ⟨hg.os, hg.tape, hg.output, hg.size, fun k hk hn => hg.block k hk (fun e => hn e.symm)⟩ (fun i hi e => hr i e hi)
theorem Fr.of_below {a b : World} (h : Below a.heap.size a b) (S : Nat → Prop) : Fr S a b := ⟨h.os, h.tape, h.output, h.size, fun k hk _ => h.block k hk⟩
theorem Fr.below {S : Nat → Prop} {a b : World} (h : Fr S a b) {B : Nat} (hB : B ≤ a.heap.size) (hs : ∀ k, k < B → ¬ S k) : Below B a b :=
  ⟨h.os, h.tape, h.output, h.size, fun k hk => h.block k (by omega) (hs k hk)⟩


/-- A block of four cells. -/
theorem cell_of_four {w : World} {b : Nat} {x y z u : Value} {t : TypeId} (h : w.heap[b]? = some (.cells #[x, y, z, u] t (0, 0))) :
    w.cell? ⟨b, 0, none⟩ = some x ∧ w.cell? ⟨b, 1, none⟩ = some y ∧ w.cell? ⟨b, 2, none⟩ = some z ∧ w.cell? ⟨b, 3, none⟩ = some u ∧ (∀ j, w.frozen? ⟨b, j, none⟩ = false) := by
  refine ⟨?_, ?_, ?_, ?_, fun j => ?_⟩ <;> simp [World.cell?, World.frozen?, h]

/-- Words as cells. -/
def wordCells (l : List Nat) : List Value := l.map fun (x : Nat) => Value.int .u64 x
theorem length_wordCells (l : List Nat) : (wordCells l).length = l.length := by simp [wordCells]
theorem wordCells_get (l : List Nat) (j : Nat) : (wordCells l)[j]? = l[j]?.map fun (x : Nat) => Value.int .u64 x := by simp [wordCells]
theorem wordCells_set (l : List Nat) (j x : Nat) : (wordCells l).set j (Value.int .u64 (x : Int)) = wordCells (l.set j x) := by simp [wordCells, List.map_set]
theorem wordCells_append (a b : List Nat) : wordCells (a ++ b) = wordCells a ++ wordCells b := by simp [wordCells]
theorem wordCells_take (l : List Nat) (k : Nat) : (wordCells l).take k = wordCells (l.take k) := by simp [wordCells, List.map_take]
theorem wordCells_one (l : List Nat) : ∀ u ∈ wordCells l, u.oneCell' = true := by
  intro u hu
  simp only [wordCells, List.mem_map] at hu
  obtain ⟨x, _, rfl⟩ := hu
  rfl

/-- A map: its block b, the block g of its words, its size, its pixels. -/
structure MapAt (w : World) (b g cap W H : Nat) (P : Nat → Nat → Bool) : Prop where
  blk : w.heap[b]? = some (.cells #[.int .i64 W, .int .i64 H, .int .i64 (stride W : Nat), .slice (some ⟨g, 0, none⟩) (H * stride W) cap] 97 (0, 0))
  own : w.ownsRow 0 67 1 (.slice (some ⟨g, 0, none⟩) (H * stride W) cap) (H * stride W) (wordCells (render W H P))
  wpos : 1 ≤ W
  hpos : 1 ≤ H
  area : W * H ≤ 1048576

theorem row_kept {w w' : World} {base e size n : Nat} {v : Value} {xs : List Value} {S : Nat → Prop} (h : w.ownsRow base e size v n xs) (f : Fr S w w') (h2 : ∀ k, v.ownBlock = some k → ¬ S k) : w'.ownsRow base e size v n xs := by
  refine ⟨h.1, ?_⟩
  rcases h.2 with hn | ⟨g, cap, cur, rfl, hb, hgg, rest⟩
  · exact Or.inl hn
  · refine Or.inr ⟨g, cap, cur, rfl, hb, ?_, rest⟩
    rw [f.block g (lt_of_block hgg) (h2 g rfl)]
    exact hgg
theorem MapAt.lt {w : World} {b g cap W H : Nat} {P : Nat → Nat → Bool} (h : MapAt w b g cap W H P) : b < w.heap.size := lt_of_block h.blk
theorem MapAt.glt {w : World} {b g cap W H : Nat} {P : Nat → Nat → Bool} (h : MapAt w b g cap W H P) : g < w.heap.size := (h.own.lt g rfl).2
theorem MapAt.ne {w : World} {b g cap W H : Nat} {P : Nat → Nat → Bool} (h : MapAt w b g cap W H P) : g ≠ b := by
  intro e
  subst e
  rcases h.own.2 with ⟨e, _⟩ | ⟨g', cap', cur, e, _, hg, _⟩
  · cases e
  · simp only [Value.slice.injEq, Option.some.injEq, Addr.mk.injEq] at e
    obtain ⟨⟨rfl, _⟩, _⟩ := e
    rw [h.blk] at hg
    simp at hg
theorem MapAt.kept {w w' : World} {b g cap W H : Nat} {P : Nat → Nat → Bool} {S : Nat → Prop} (h : MapAt w b g cap W H P) (f : Fr S w w') (h1 : ¬ S b) (h2 : ¬ S g) : MapAt w' b g cap W H P :=
  ⟨by rw [f.block b h.lt h1]; exact h.blk, row_kept h.own f (fun k hk => by simp [Value.ownBlock] at hk; subst hk; exact h2), h.wpos, h.hpos, h.area⟩
theorem MapAt.drewN {w : World} {b g cap W H : Nat} {P : Nat → Nat → Bool} (h : MapAt w b g cap W H P) (n : Nat) : MapAt (w.drewN n) b g cap W H P :=
  h.kept (S := fun _ => False) ((Fr.refl _ _).drewN n) (fun hh => hh) (fun hh => hh)
theorem MapAt.pix {w : World} {b g cap W H : Nat} {P Q : Nat → Nat → Bool} (h : MapAt w b g cap W H P) (e : ∀ x y, x < W → y < H → P x y = Q x y) : MapAt w b g cap W H Q :=
  ⟨h.blk, by rw [← render_congr e]; exact h.own, h.wpos, h.hpos, h.area⟩
theorem MapAt.words_le {w : World} {b g cap W H : Nat} {P : Nat → Nat → Bool} (h : MapAt w b g cap W H P) : H * stride W ≤ 1048576 := by
  have h1 := h.wpos
  have h2 := h.area
  refine Nat.le_trans (Nat.mul_le_mul_left H (m := W) ?_) (by rw [Nat.mul_comm]; exact h2)
  unfold stride; omega
theorem MapAt.word {w : World} {b g cap W H : Nat} {P : Nat → Nat → Bool} (h : MapAt w b g cap W H P) {y j : Nat} (hy : y < H) (hj : j < stride W) : w.cell? ⟨g, y * stride W + j, none⟩ = some (.int .u64 (wd W P y j : Nat)) := by
  rw [h.own.cellAt _ (by have := at_lt hy hj; omega), wordCells_get, render_get P hy hj]; rfl
/-- A word of a map is written. -/
theorem MapAt.put {w : World} {b g cap W H : Nat} {P Q : Nat → Nat → Bool} (h : MapAt w b g cap W H P) {y j x : Nat} (hy : y < H) (hj : j < stride W) (hx : x < 18446744073709551616)
    (hw : ∀ k, k < 64 → x.testBit (63 - k) = (decide (64 * j + k < W) && Q (64 * j + k) y)) (ho : ∀ a b, a < W → b < H → ¬ (b = y ∧ a / 64 = j) → Q a b = P a b) :
    MapAt (w.setCell ⟨g, y * stride W + j, none⟩ (.int .u64 (x : Int))) b g cap W H Q := by
  refine ⟨?_, ?_, h.wpos, h.hpos, h.area⟩
  · rw [Below.heap_setCell _ _ _ _ (by exact fun e => h.ne e.symm)]; exact h.blk
  · have := (h.own.stored (y * stride W + j) (.int .u64 (x : Int))).1
    rw [wordCells_set, render_set hy hj hx hw ho] at this
    exact this

end Go.Proofs.Ytkggdnkmaldmlab

/- Small functions: sizes, strides, rows, masks. -/
namespace Go.Proofs.Ytkggdnkmaldmlab
open Go.RowKit

set_option maxRecDepth 100000 in
set_option maxHeartbeats 1000000 in
theorem strideOf_any (W : Nat) (w : World) (h : W ≤ 1048576) :
    Calls Try.prog 40 #[.int .i64 W] w fun e w' => e = .returned (.int .i64 (stride W : Nat)) ∧ w' = w := by
  go_enter Try.func40, Try.ntmps40
  go_wp2
  go_ret
  exact ⟨by simp [stride]; omega, rfl⟩

set_option maxRecDepth 100000 in
set_option maxHeartbeats 1000000 in
theorem words_any (W : Nat) (w : World) (h : W ≤ 1048576) :
    Calls Try.prog 16 #[.int .i64 W] w fun e w' => e = .returned (.int .i64 (stride W : Nat)) ∧ w' = w := by
  go_enter Try.func16, Try.ntmps16
  go_wp2
  go_ret
  exact ⟨by simp [stride], rfl⟩

def sizeOK (x y : Int) : Bool := decide (1 ≤ x ∧ 1 ≤ y ∧ x * y ≤ 1048576)

theorem le_div_iff (x y : Int) (hy : 1 ≤ y) : (x ≤ 1048576 / y) ↔ x * y ≤ 1048576 := Int.le_ediv_iff_mul_le (by omega)
theorem sizeOK_of (x y : Int) (h : 1 ≤ x) (hy : 1 ≤ y) : decide (x ≤ 1048576 / y) = sizeOK x y := by
  unfold sizeOK
  rw [decide_eq_decide, le_div_iff x y hy]
  exact ⟨fun h1 => ⟨h, hy, h1⟩, fun h1 => h1.2.2⟩

set_option maxRecDepth 100000 in
set_option maxHeartbeats 1000000 in
theorem isSize_any (x y : Int) (w : World) (hx : -9223372036854775808 ≤ x ∧ x ≤ 9223372036854775807) (hy : -9223372036854775808 ≤ y ∧ y ≤ 9223372036854775807) :
    Calls Try.prog 39 #[.int .i64 x, .int .i64 y] w fun e w' => e = .returned (.bool (sizeOK x y)) ∧ w' = w := by
  go_enter Try.func39, Try.ntmps39
  by_cases h0 : 1 ≤ x
  · by_cases h1 : 1 ≤ y
    · go_wp2
      go_ret
      exact ⟨by rw [← sizeOK_of x y h0 h1]; rfl, rfl⟩
    · go_wp2
      go_ret
      exact ⟨by simp [sizeOK]; omega, rfl⟩
  · go_wp2
    go_ret
    exact ⟨by simp [sizeOK]; omega, rfl⟩

end Go.Proofs.Ytkggdnkmaldmlab

/- Small functions, more: spans, masks, gaps, the count of a word. -/
namespace Go.Proofs.Ytkggdnkmaldmlab
open Go.RowKit

def fstW (to n : Nat) : Nat := if n = 0 then 0 else to / 64
def cntW (to n : Nat) : Nat := if n = 0 then 0 else (to + n - 1) / 64 - to / 64 + 1

theorem wrapu64 (x : Int) : IntKind.u64.wrap x = x % 18446744073709551616 := by
  simp [IntKind.wrap, IntKind.signed, IntKind.bits]

theorem all_shr (a j : Nat) : (18446744073709551615 / 2 ^ a).testBit j = decide (j + a < 64) := by
  rw [Nat.testBit_div_two_pow, show (18446744073709551615 : Nat) = 2 ^ 64 - 1 from rfl, Nat.testBit_two_pow_sub_one]
theorem all_shl (b j : Nat) : (18446744073709551615 * 2 ^ b % 18446744073709551616).testBit j = (decide (j < 64) && decide (b ≤ j)) := by
  rw [show (18446744073709551616 : Nat) = 2 ^ 64 from rfl, Nat.testBit_mod_two_pow, Nat.testBit_mul_two_pow, show (18446744073709551615 : Nat) = 2 ^ 64 - 1 from rfl, Nat.testBit_two_pow_sub_one]
  by_cases h1 : j < 64 <;> by_cases h2 : b ≤ j <;> simp [h1, h2]
  omega
theorem cast_div_pow (c a : Nat) : (c : Int) / 2 ^ a = ((c / 2 ^ a : Nat) : Int) := by push_cast; rfl
theorem cast_mul_pow (c b m : Nat) : (c : Int) * 2 ^ b % (m : Int) = ((c * 2 ^ b % m : Nat) : Int) := by push_cast; rfl
theorem mask_num (a b : Nat) (_hb : b < 64) : bits .and .u64 ((18446744073709551615 : Int) / 2 ^ a) (IntKind.u64.wrap (18446744073709551615 * 2 ^ b)) = ((wordOf fun i => decide (a ≤ i ∧ i + b < 64) : Nat) : Int) := by
  have h1 : (18446744073709551615 : Int) / 2 ^ a = ((18446744073709551615 / 2 ^ a : Nat) : Int) := cast_div_pow 18446744073709551615 a
  have h2 : IntKind.u64.wrap (18446744073709551615 * 2 ^ b) = ((18446744073709551615 * 2 ^ b % 18446744073709551616 : Nat) : Int) := by rw [wrapu64]; exact cast_mul_pow 18446744073709551615 b 18446744073709551616
  have l1 : 18446744073709551615 / 2 ^ a < 18446744073709551616 := Nat.lt_of_le_of_lt (Nat.div_le_self _ _) (by omega)
  have l2 : 18446744073709551615 * 2 ^ b % 18446744073709551616 < 18446744073709551616 := Nat.mod_lt _ (by omega)
  rw [h1, h2, u64_and_nat _ _ l1 l2]
  congr 1
  refine word_eq (Nat.lt_of_le_of_lt Nat.and_le_left l1) ?_
  intro k hk
  rw [Nat.testBit_and, all_shr, all_shl]
  by_cases h3 : a ≤ k <;> by_cases h4 : k + b < 64 <;> simp [h3, h4] <;> omega
theorem mask_num0 (b : Nat) (hb : b < 64) : bits .and .u64 18446744073709551615 (IntKind.u64.wrap (18446744073709551615 * 2 ^ b)) = ((wordOf fun i => decide (0 ≤ i ∧ i + b < 64) : Nat) : Int) := by
  rw [← mask_num 0 b hb]; simp
theorem mask_num1 (a : Nat) : bits .and .u64 ((18446744073709551615 : Int) / 2 ^ a) 18446744073709551615 = ((wordOf fun i => decide (a ≤ i ∧ i + 0 < 64) : Nat) : Int) := by
  rw [← mask_num a 0 (by omega)]; rw [show IntKind.u64.wrap (18446744073709551615 * 2 ^ 0) = 18446744073709551615 from by decide]
theorem mask_num2 : bits .and .u64 18446744073709551615 18446744073709551615 = ((wordOf fun i => decide (0 ≤ i ∧ i + 0 < 64) : Nat) : Int) := by
  rw [← mask_num1 0]; simp
theorem pad_num (p : Nat) (h : p < 64) : IntKind.u64.wrap (IntKind.u64.wrap (2 ^ p) - 1) = ((2 ^ p - 1 : Nat) : Int) := by
  have h1 : (2 : Nat) ^ p < 2 ^ 64 := Nat.pow_lt_pow_right (by omega) h
  have h2 : 0 < (2 : Nat) ^ p := Nat.two_pow_pos p
  have h3 : (2 : Int) ^ p = ((2 ^ p : Nat) : Int) := by push_cast; rfl
  rw [wrapu64, wrapu64, h3]
  generalize (2 : Nat) ^ p = X at *
  omega

set_option maxRecDepth 100000 in
set_option maxHeartbeats 1000000 in
theorem padOf_any (W : Nat) (w : World) (h : W ≤ 1048576) (h0 : 1 ≤ W) :
    Calls Try.prog 41 #[.int .i64 W] w fun e w' => e = .returned (.int .u64 (2 ^ (64 * stride W - W) - 1 : Nat)) ∧ w' = w := by
  go_enter Try.func41, Try.ntmps41
  go_wp2_with fail
  refine (strideOf_any W _ h).mono ?_
  rintro e w1 ⟨rfl, rfl⟩
  have hs1 : stride W * 64 < W + 64 := by unfold stride; omega
  have hs2 : W ≤ stride W * 64 := by unfold stride; omega
  go_wp2
  go_ret
  refine ⟨?_, rfl⟩
  rw [show 64 * stride W - W = stride W * 64 - W from by omega, ← pad_num _ (by omega)]
  rfl

end Go.Proofs.Ytkggdnkmaldmlab
