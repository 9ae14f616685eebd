/- 'white', 'New', 'Count', 'Get', 'Size'. -/
import Derived.Test.YtgpciopoionmeaaSpan
namespace Go.Proofs.Ytgpciopoionmeaa
open Go.RowKit

theorem Try.infoUw : (Try.prog.info? 62).map (fun i => (i.zero, i.size, i.bytes)) = some (some (.int .u64 0), 1, 8) := by kernel_rfl

/-- A map that a call has made: its blocks are new. -/
structure NewMap (w w' : World) (b g cap W H : Nat) (P : Nat → Nat → Bool) : Prop where
  at_ : MapAt w' b g cap W H P
  fr : Fr (fun _ => False) w w'
  nb : w.heap.size ≤ b
  ng : w.heap.size ≤ g

theorem ownsRow_base {w : World} {b b' : Nat} {e : TypeId} {size : Nat} {v : Value} {n : Nat} {xs : List Value} (h : w.ownsRow b e size v n xs) (hb : ∀ k, v.ownBlock = some k → b' ≤ k) : w.ownsRow b' e size v n xs := by
  refine ⟨h.1, ?_⟩
  rcases h.2 with hn | ⟨g, cap, cur, rfl, _, r⟩
  · exact Or.inl hn
  · exact Or.inr ⟨g, cap, cur, rfl, hb g rfl, r⟩

theorem render_white (W H : Nat) : render W H (fun _ _ => false) = List.replicate (H * stride W) 0 := by
  apply List.ext_getElem?
  intro i
  by_cases hi : i < H * stride W
  · rw [render_get' _ hi, List.getElem?_replicate, if_pos hi]
    unfold wd
    simp [wordOf_false]
  · rw [List.getElem?_eq_none (by rw [length_render]; omega), List.getElem?_eq_none (by simp; omega)]
theorem wordCells_replicate (n : Nat) : wordCells (List.replicate n 0) = List.replicate n (.int .u64 0) := by simp [wordCells]

theorem size_facts {W H : Nat} (h1 : 1 ≤ W) (h2 : 1 ≤ H) (h3 : W * H ≤ 1048576) : W ≤ 1048576 ∧ H ≤ 1048576 ∧ H * stride W ≤ 1048576 := by
  have a : W * 1 ≤ W * H := Nat.mul_le_mul_left _ h2
  have b : 1 * H ≤ W * H := Nat.mul_le_mul_right _ h1
  have c : stride W ≤ W := by unfold stride; omega
  have d : H * stride W ≤ H * W := Nat.mul_le_mul_left _ c
  rw [Nat.mul_comm H W] at d
  omega

theorem bit_num (x j : Nat) (h : x < 18446744073709551616) : wrap64 (bits .and .u64 ((x : Int) / 2 ^ j) 1) = (((x.testBit j).toNat : Nat) : Int) := by
  have l1 : x / 2 ^ j < 18446744073709551616 := Nat.lt_of_le_of_lt (Nat.div_le_self _ _) h
  have e : bits .and .u64 ((x : Int) / 2 ^ j) 1 = ((x / 2 ^ j % 2 : Nat) : Int) := by
    rw [cast_div_pow, ← Nat.and_one_is_mod]
    exact u64_and_nat _ 1 l1 (by omega)
  rw [e, Nat.testBit_eq_decide_div_mod_eq]
  have : x / 2 ^ j % 2 < 2 := Nat.mod_lt _ (by omega)
  generalize x / 2 ^ j % 2 = t at *
  rcases (show t = 0 ∨ t = 1 from by omega) with rfl | rfl <;> decide +kernel

end Go.Proofs.Ytgpciopoionmeaa
