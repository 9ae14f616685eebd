/- 'From' of a plain bitmap that was made here. -/
import Derived.Test.YtcopbjinnegfoaaFrom
import Derived.Test.YtcopbjinnegfoaaRefPut
namespace Go.Proofs.Ytcopbjinnegfoaa
open Go.RowKit

theorem render_ltD (W H : Nat) (P : Nat → Nat → Bool) (j : Nat) : (render W H P)[j]?.getD 0 < 18446744073709551616 := by
  by_cases h : j < H * stride W
  · rw [render_get' P h]; exact wd_lt _ _ _ _
  · rw [List.getElem?_eq_none (by rw [length_render]; omega)]; simp
theorem render_rowOK (W H : Nat) (P : Nat → Nat → Bool) (hW : 1 ≤ W) (j : Nat) (hj : j < H) : rowOK W (render W H P) j := by
  have hS : 0 < stride W := by unfold stride; omega
  unfold rowOK
  have e : (j + 1) * stride W - 1 = j * stride W + (stride W - 1) := by rw [Nat.add_mul, Nat.one_mul]; omega
  rw [e, render_get P hj (by omega), Option.getD_some]
  apply Nat.eq_of_testBit_eq
  intro i
  rw [Nat.testBit_mod_two_pow, Nat.zero_testBit]
  have hs : W ≤ 64 * stride W ∧ 64 * stride W < W + 64 := by unfold stride; omega
  by_cases hi : i < 64 * stride W - W
  · have h63 : i = 63 - (63 - i) := by omega
    unfold wd
    rw [h63, bit_wordOf _ _ (by omega), decide_eq_false (show ¬ (64 * (stride W - 1) + (63 - i) < W) by omega)]
    simp
  · rw [decide_eq_false hi]; rfl

theorem from_row (W H g cap : Nat) (P : Nat → Nat → Bool) (w : World) (h : RowAt w g cap W H P) (h1 : 1 ≤ W) (h2 : 1 ≤ H) (h3 : W * H ≤ 1048576) :
    Calls Try.prog 16 #[.agg #[.int .i64 W, .int .i64 H, .slice (some ⟨g, 0, none⟩) (H * stride W) cap]] w fun e w' => ∃ b g2 c, e = .returned (.tuple #[.pointer (some ⟨b, 0, none⟩), .int .i64 0]) ∧ NewMap w w' b g2 c W H P := by
  obtain ⟨f1, f2, f3⟩ := size_facts h1 h2 h3
  refine (from_yes W H _ (render W H P) w h1 h2 h3 (h.seen f3) (render_ltD W H P) (length_render W H P) (fun j hj => render_rowOK W H P h1 j hj)).mono ?_
  rintro e w' ⟨b, g2, c, he, hn⟩
  have hr := valid_render W H (render W H P) h1 (length_render W H P) (fun j hj => render_rowOK W H P h1 j hj) (render_ltD W H P)
  exact ⟨b, g2, c, he, ⟨hn.at_.pix (fun x y hx hy => (render_inj hr x y hx hy).symm), hn.fr, hn.nb, hn.ng⟩⟩

end Go.Proofs.Ytcopbjinnegfoaa
