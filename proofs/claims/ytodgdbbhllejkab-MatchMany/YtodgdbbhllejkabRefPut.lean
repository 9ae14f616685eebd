/- The document's own 'White', 'Put', 'Count'. -/
import Derived.Test.YtodgdbbhllejkabCrop
import Derived.Test.YtodgdbbhllejkabPaint
namespace Go.Proofs.Ytodgdbbhllejkab
open Go.RowKit

/-- A plain bitmap's words: block g. -/
def RowAt (w : World) (g cap W H : Nat) (P : Nat → Nat → Bool) : Prop := w.ownsRow 0 23 1 (.slice (some ⟨g, 0, none⟩) (H * stride W) cap) (H * stride W) (wordCells (render W H P))
theorem RowAt.kept {S : Nat → Prop} {w w' : World} {g cap W H : Nat} {P : Nat → Nat → Bool} (h : RowAt w g cap W H P) (f : Fr S w w') (h1 : ¬ S g) : RowAt w' g cap W H P :=
  row_kept h f (fun k hk => by simp [Value.ownBlock] at hk; subst hk; exact h1)
theorem RowAt.seen {w : World} {g cap W H : Nat} {P : Nat → Nat → Bool} (h : RowAt w g cap W H P) (hl : H * stride W ≤ 1048576) : Seen w (.slice (some ⟨g, 0, none⟩) (H * stride W) cap) (render W H P) := by
  have := Seen.of_row (base := 0) (w := w) (v := .slice (some ⟨g, 0, none⟩) (H * stride W) cap) (l := render W H P) (by rw [length_render]; exact h) (by rw [length_render]; omega)
  exact this
theorem RowAt.lt {w : World} {g cap W H : Nat} {P : Nat → Nat → Bool} (h : RowAt w g cap W H P) : g < w.heap.size := (World.ownsRow.lt h g rfl).2
def putPix (P : Nat → Nat → Bool) (x y : Nat) (c : Bool) : Nat → Nat → Bool := fun a e => if a = x ∧ e = y then c else P a e

theorem RowAt.put {w : World} {g cap W H : Nat} {P Q : Nat → Nat → Bool} (h : RowAt w g cap W H P) {y j x : Nat} (hy : y < H) (hj : j < stride W) (hx : x < 18446744073709551616)
    (hw : ∀ k, k < 64 → x.testBit (63 - k) = (decide (64 * j + k < W) && Q (64 * j + k) y)) (ho : ∀ a b, a < W → b < H → ¬ (b = y ∧ a / 64 = j) → Q a b = P a b) :
    RowAt (w.setCell ⟨g, y * stride W + j, none⟩ (.int .u64 (x : Int))) g cap W H Q := by
  have := (World.ownsRow.stored h (y * stride W + j) (.int .u64 (x : Int))).1
  rw [wordCells_set, render_set hy hj hx hw ho] at this
  exact this

theorem one_shl (k : Nat) (hk : k < 64) : (2 ^ k % 18446744073709551616) = 2 ^ k := Nat.mod_eq_of_lt (Nat.pow_lt_pow_right (by omega) (show k < 64 from hk))

end Go.Proofs.Ytodgdbbhllejkab
