/- A span of a row is written word by word; 'paint' and 'Set'. -/
import Derived.Test.YtgpciopoionmeaaMake
namespace Go.Proofs.Ytgpciopoionmeaa
open Go.RowKit

theorem Fr.cellEq {S : Nat → Prop} {w w' : World} (f : Fr S w w') {b o : Nat} (hb : b < w.heap.size) (hs : ¬ S b) : w'.cell? ⟨b, o, none⟩ = w.cell? ⟨b, o, none⟩ := by
  unfold World.cell?; rw [f.block b hb hs]

/-- Pixels of row y from to up to to + n, as far as word k of them, are N; all others P. -/
def laid (P : Nat → Nat → Bool) (y to n : Nat) (N : Nat → Bool) (k : Nat) : Nat → Nat → Bool :=
  fun a b => if b = y ∧ to ≤ a ∧ a < to + n ∧ a / 64 < fstW to n + k then N a else P a b
def laidAll (P : Nat → Nat → Bool) (y to n : Nat) (N : Nat → Bool) : Nat → Nat → Bool :=
  fun a b => if b = y ∧ to ≤ a ∧ a < to + n then N a else P a b

theorem laid_zero (P : Nat → Nat → Bool) (y to n : Nat) (N : Nat → Bool) : laid P y to n N 0 = P := by
  funext a b
  unfold laid fstW
  rw [if_neg]
  rintro ⟨_, h1, h2, h3⟩
  split at h3 <;> omega
theorem laid_all (P : Nat → Nat → Bool) (y to n : Nat) (N : Nat → Bool) : laid P y to n N (cntW to n) = laidAll P y to n N := by
  funext a b
  unfold laid laidAll
  by_cases h : b = y ∧ to ≤ a ∧ a < to + n
  · rw [if_pos h, if_pos]
    refine ⟨h.1, h.2.1, h.2.2, ?_⟩
    unfold fstW cntW
    split <;> omega
  · rw [if_neg h, if_neg]
    rintro ⟨h1, h2, h3, _⟩
    exact h ⟨h1, h2, h3⟩
theorem cnt_in {to n k : Nat} (hk : k < cntW to n) : 0 < n ∧ to < 64 * (fstW to n + k) + 64 ∧ 64 * (fstW to n + k) < to + n := by
  unfold cntW at hk
  unfold fstW
  by_cases h : n = 0
  · simp [h] at hk
  · simp only [h, if_false] at hk ⊢
    omega
theorem cnt_stride {W to n k : Nat} (hk : k < cntW to n) (h : to + n ≤ W) : fstW to n + k < stride W := by
  have := cnt_in hk
  unfold stride
  omega
theorem laid_wd (W : Nat) (P : Nat → Nat → Bool) (y to n : Nat) (N : Nat → Bool) (k : Nat) : wd W (laid P y to n N k) y (fstW to n + k) = wd W P y (fstW to n + k) := by
  apply wordOf_congr
  intro i hi
  congr 1
  unfold laid
  rw [if_neg]
  rintro ⟨_, _, _, h⟩
  omega

/-- The next word of the span is written. -/
theorem MapAt.step {w : World} {b g cap W H : Nat} {P : Nat → Nat → Bool} {y to n : Nat} {N : Nat → Bool} {k x : Nat} (h : MapAt w b g cap W H (laid P y to n N k)) (hk : k < cntW to n) (ht : to + n ≤ W) (hy : y < H) (hx : x < 18446744073709551616)
    (hb : ∀ i, i < 64 → x.testBit (63 - i) = if to ≤ 64 * (fstW to n + k) + i ∧ 64 * (fstW to n + k) + i < to + n then N (64 * (fstW to n + k) + i) else (wd W P y (fstW to n + k)).testBit (63 - i)) :
    MapAt (w.setCell ⟨g, y * stride W + (fstW to n + k), none⟩ (.int .u64 (x : Int))) b g cap W H (laid P y to n N (k + 1)) := by
  have hst := cnt_stride hk ht
  refine h.put hy hst hx ?_ ?_
  · intro i hi
    rw [hb i hi]
    by_cases hin : to ≤ 64 * (fstW to n + k) + i ∧ 64 * (fstW to n + k) + i < to + n
    · rw [if_pos hin]
      unfold laid
      rw [if_pos ⟨rfl, hin.1, hin.2, by omega⟩, decide_eq_true (by omega)]
      rfl
    · rw [if_neg hin]
      unfold wd
      rw [bit_wordOf _ _ hi]
      congr 1
      unfold laid
      rw [if_neg]
      rintro ⟨_, h1, h2, _⟩
      exact hin ⟨h1, h2⟩
  · intro a c _ _ hn
    unfold laid
    by_cases hin : c = y ∧ to ≤ a ∧ a < to + n ∧ a / 64 < fstW to n + k
    · rw [if_pos hin, if_pos ⟨hin.1, hin.2.1, hin.2.2.1, by omega⟩]
    · rw [if_neg hin, if_neg]
      rintro ⟨h1, h2, h3, h4⟩
      apply hin
      refine ⟨h1, h2, h3, ?_⟩
      have : ¬ a / 64 = fstW to n + k := fun e => hn ⟨h1, e⟩
      omega

/-- A word that is written over twice. -/
theorem setCell_twice (w : World) (p : Addr) (u v : Value) : (w.setCell p u).setCell p v = w.setCell p v := by
  unfold World.setCell
  simp only [World.mk.injEq, and_true]
  apply Array.ext_getElem?
  intro i
  simp only [Array.getElem?_modify]
  split
  · cases w.heap[i]? with
    | none => rfl
    | some o => cases o <;> by_cases hp : p.spot.isSome = true <;> simp [hp]
  · rfl

theorem not_mask (x m : Nat) (hm : m < 18446744073709551616) (i : Nat) (hi : i < 64) : (x &&& 18446744073709551615 - m).testBit i = (x.testBit i && !m.testBit i) := by
  rw [Nat.testBit_and, show 18446744073709551615 - m = 2 ^ 64 - (m + 1) from by omega, Nat.testBit_two_pow_sub_succ hm]
  simp [hi]

def spanMask (to n j : Nat) : Nat := wordOf fun i => decide (to ≤ 64 * j + i ∧ 64 * j + i < to + n)
theorem spanMask_lt (to n j : Nat) : spanMask to n j < 18446744073709551616 := wordOf_lt _
theorem spanMask_bit (to n j i : Nat) (hi : i < 64) : (spanMask to n j).testBit (63 - i) = decide (to ≤ 64 * j + i ∧ 64 * j + i < to + n) := bit_wordOf _ _ hi

end Go.Proofs.Ytgpciopoionmeaa
