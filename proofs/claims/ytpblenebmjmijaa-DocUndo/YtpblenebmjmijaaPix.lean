/- Plain mathematics of rasters: words of 64 pixels, the highest bit first; a raster as the words of a function of places. -/
namespace Go.Proofs.Ytpblenebmjmijaa

def acc (f : Nat → Bool) : Nat → Nat
  | 0 => 0
  | n + 1 => 2 * acc f n + (f n).toNat

theorem acc_lt (f : Nat → Bool) : ∀ n, acc f n < 2 ^ n
  | 0 => by simp [acc]
  | n + 1 => by
    have := acc_lt f n
    have h2 : (f n).toNat ≤ 1 := by cases f n <;> simp
    simp only [acc, Nat.pow_succ]; omega

theorem testBit_acc (f : Nat → Bool) : ∀ n i, (acc f n).testBit i = (decide (i < n) && f (n - 1 - i))
  | 0, i => by simp [acc]
  | n + 1, 0 => by
    simp only [acc, Nat.testBit_zero]
    cases h : f n <;> simp [h] <;> omega
  | n + 1, i + 1 => by
    simp only [acc, Nat.testBit_succ]
    rw [show (2 * acc f n + (f n).toNat) / 2 = acc f n from by cases f n <;> simp <;> omega, testBit_acc f n i]
    rw [show n + 1 - 1 - (i + 1) = n - 1 - i from by omega]
    simp

/-- The word whose pixels are f 0 .. f 63. -/
def wordOf (f : Nat → Bool) : Nat := acc f 64
theorem wordOf_lt (f : Nat → Bool) : wordOf f < 18446744073709551616 := acc_lt f 64
theorem testBit_wordOf (f : Nat → Bool) (i : Nat) : (wordOf f).testBit i = (decide (i < 64) && f (63 - i)) := testBit_acc f 64 i

theorem word_eq {x : Nat} {f : Nat → Bool} (hx : x < 18446744073709551616) (h : ∀ k, k < 64 → x.testBit (63 - k) = f k) : x = wordOf f := by
  apply Nat.eq_of_testBit_eq
  intro i
  rw [testBit_wordOf]
  by_cases hi : i < 64
  · have := h (63 - i) (by omega)
    rw [show 63 - (63 - i) = i from by omega] at this
    simp [this, hi]
  · have : x.testBit i = false := Nat.testBit_lt_two_pow (Nat.lt_of_lt_of_le hx (by rw [show (18446744073709551616 : Nat) = 2 ^ 64 from rfl]; exact Nat.pow_le_pow_right (by omega) (by omega)))
    simp [this, hi]
theorem wordOf_congr {f g : Nat → Bool} (h : ∀ k, k < 64 → f k = g k) : wordOf f = wordOf g :=
  word_eq (wordOf_lt f) (fun k hk => by rw [testBit_wordOf, show 63 - (63 - k) = k from by omega]; simp [show 63 - k < 64 from by omega, h k hk])
theorem bit_wordOf (f : Nat → Bool) (k : Nat) (hk : k < 64) : (wordOf f).testBit (63 - k) = f k := by
  rw [testBit_wordOf, show 63 - (63 - k) = k from by omega]; simp [show 63 - k < 64 from by omega]
theorem wordOf_false : wordOf (fun _ => false) = 0 := by decide +kernel

def stride (W : Nat) : Nat := (W + 63) / 64

/-- Word j of row y. -/
def wd (W : Nat) (P : Nat → Nat → Bool) (y j : Nat) : Nat := wordOf fun k => decide (64 * j + k < W) && P (64 * j + k) y

/-- All words of a raster. -/
def render (W H : Nat) (P : Nat → Nat → Bool) : List Nat := (List.range (H * stride W)).map fun i => wd W P (i / stride W) (i % stride W)

theorem length_render (W H : Nat) (P : Nat → Nat → Bool) : (render W H P).length = H * stride W := by simp [render]
theorem wd_lt (W : Nat) (P : Nat → Nat → Bool) (y j : Nat) : wd W P y j < 18446744073709551616 := wordOf_lt _
theorem render_lt {W H : Nat} {P : Nat → Nat → Bool} : ∀ x ∈ render W H P, x < 18446744073709551616 := by
  intro x hx
  simp only [render, List.mem_map] at hx
  obtain ⟨_, _, rfl⟩ := hx
  exact wordOf_lt _
theorem stride_pos {W : Nat} (h : 0 < W) : 0 < stride W := by unfold stride; omega
theorem at_lt {W H y j : Nat} (hy : y < H) (hj : j < stride W) : y * stride W + j < H * stride W := by
  have : (y + 1) * stride W ≤ H * stride W := Nat.mul_le_mul_right _ hy
  rw [Nat.add_mul] at this; omega
theorem at_div {W y j : Nat} (hj : j < stride W) : (y * stride W + j) / stride W = y := by
  rw [Nat.mul_comm, Nat.mul_add_div (by omega), Nat.div_eq_of_lt hj, Nat.add_zero]
theorem at_mod {W y j : Nat} (hj : j < stride W) : (y * stride W + j) % stride W = j := by
  rw [Nat.mul_comm, Nat.mul_add_mod, Nat.mod_eq_of_lt hj]
theorem render_get {W H y j : Nat} (P : Nat → Nat → Bool) (hy : y < H) (hj : j < stride W) : (render W H P)[y * stride W + j]? = some (wd W P y j) := by
  unfold render
  rw [List.getElem?_map, List.getElem?_range (at_lt hy hj)]
  simp [at_div hj, at_mod hj]
theorem render_get' {W H i : Nat} (P : Nat → Nat → Bool) (hi : i < H * stride W) : (render W H P)[i]? = some (wd W P (i / stride W) (i % stride W)) := by
  unfold render
  rw [List.getElem?_map, List.getElem?_range hi]
  rfl
theorem wd_congr {W : Nat} {P Q : Nat → Nat → Bool} {y j : Nat} (h : ∀ x, x < W → P x y = Q x y) : wd W P y j = wd W Q y j := by
  apply wordOf_congr
  intro k _
  by_cases hx : 64 * j + k < W
  · simp [hx, h _ hx]
  · simp [hx]
theorem render_congr {W H : Nat} {P Q : Nat → Nat → Bool} (h : ∀ x y, x < W → y < H → P x y = Q x y) : render W H P = render W H Q := by
  apply List.map_congr_left
  intro i hi
  have hi' : i < H * stride W := by simpa using hi
  apply wd_congr
  intro x hx
  apply h x _ hx
  by_cases hs : stride W = 0
  · rw [hs] at hi'; omega
  · exact (Nat.div_lt_iff_lt_mul (by omega)).2 hi'
theorem div_lt_of {a b c : Nat} (h : a < b * c) : a / c < b := by
  by_cases hc : c = 0
  · subst hc; omega
  · exact (Nat.div_lt_iff_lt_mul (by omega)).2 h

/-- A word is written: the raster whose pixels it has. -/
theorem render_set {W H y j x : Nat} {P Q : Nat → Nat → Bool} (hy : y < H) (hj : j < stride W) (hx : x < 18446744073709551616)
    (hw : ∀ k, k < 64 → x.testBit (63 - k) = (decide (64 * j + k < W) && Q (64 * j + k) y)) (ho : ∀ a b, a < W → b < H → ¬ (b = y ∧ a / 64 = j) → Q a b = P a b) :
    (render W H P).set (y * stride W + j) x = render W H Q := by
  apply List.ext_getElem?
  intro i
  rw [List.getElem?_set]
  by_cases hi : y * stride W + j = i
  · subst hi
    rw [if_pos rfl, if_pos (by rw [length_render]; exact at_lt hy hj), render_get Q hy hj, word_eq hx hw]
    rfl
  · rw [if_neg hi]
    by_cases hl : i < H * stride W
    · rw [render_get' P hl, render_get' Q hl]
      refine congrArg some ?_
      refine wordOf_congr ?_
      intro k hk
      by_cases hxx : 64 * (i % stride W) + k < W
      · simp only [hxx, decide_true, Bool.true_and]
        refine (ho _ _ hxx (div_lt_of hl) ?_).symm
        rintro ⟨h1, h2⟩
        apply hi
        have h3 : i % stride W = j := by omega
        have := Nat.div_add_mod i (stride W)
        rw [h1, h3, Nat.mul_comm] at this
        exact this
      · simp [hxx]
    · rw [List.getElem?_eq_none (by rw [length_render]; omega), List.getElem?_eq_none (by rw [length_render]; omega)]

/-- The pixel of a raster's word. -/
theorem pix_wd {W x y : Nat} (P : Nat → Nat → Bool) (hx : x < W) : (wd W P y (x / 64)).testBit (63 - x % 64) = P x y := by
  unfold wd
  rw [bit_wordOf _ _ (by omega), show 64 * (x / 64) + x % 64 = x from by omega]
  simp [hx]
theorem render_inj {W H : Nat} {P Q : Nat → Nat → Bool} (h : render W H P = render W H Q) : ∀ x y, x < W → y < H → P x y = Q x y := by
  intro x y hx hy
  have hj : x / 64 < stride W := by unfold stride; omega
  have h1 := render_get P hy hj
  rw [h, render_get Q hy hj] at h1
  rw [← pix_wd P hx, ← pix_wd Q hx]
  simp only [Option.some.injEq] at h1
  rw [h1]

/-- How many bits are 1. -/
def pop : Nat → Nat → Nat
  | 0, _ => 0
  | n + 1, x => x % 2 + pop n (x / 2)
def pops (l : List Nat) : Nat := (l.map (pop 64)).sum

theorem pop_zero : ∀ n, pop n 0 = 0
  | 0 => rfl
  | n + 1 => by simp [pop, pop_zero n]
theorem pop_le : ∀ n x, pop n x ≤ n
  | 0, _ => Nat.le_refl _
  | n + 1, x => by have := pop_le n (x / 2); simp only [pop]; omega
theorem pops_le (l : List Nat) : pops l ≤ 64 * l.length := by
  induction l with
  | nil => simp [pops]
  | cons a t ih =>
    have h1 : pops (a :: t) = pop 64 a + pops t := by simp [pops]
    have h2 := pop_le 64 a
    have h3 : (a :: t).length = t.length + 1 := rfl
    omega
theorem pops_take_succ {l : List Nat} {k x : Nat} (h : l[k]? = some x) : pops (l.take (k + 1)) = pops (l.take k) + pop 64 x := by
  unfold pops
  rw [List.take_add_one, h]
  simp
theorem pops_append (a b : List Nat) : pops (a ++ b) = pops a + pops b := by simp [pops]

end Go.Proofs.Ytpblenebmjmijaa
