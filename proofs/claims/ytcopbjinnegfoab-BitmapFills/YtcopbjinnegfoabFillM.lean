/- Counts of filled rasters. -/
import Derived.Test.YtcopbjinnegfoabCnt
namespace Go.Proofs.Ytcopbjinnegfoab

theorem cnt_true (W H : Nat) : cnt W H (fun _ _ => true) = W * H := by
  unfold cnt
  simp only [Bool.toNat_true]
  rw [sumTo_const, sumTo_const, Nat.mul_one, Nat.mul_comm]
theorem cnt_false (W H : Nat) : cnt W H (fun _ _ => false) = 0 := by
  unfold cnt
  simp only [Bool.toNat_false]
  rw [sumTo_const, sumTo_const]; simp

theorem cnt_corner (W H x y : Nat) (hx : x ≤ W) (hy : y ≤ H) : cnt W H (fun a e => !decide (x ≤ a ∧ y ≤ e)) + (W - x) * (H - y) = W * H := by
  have r1 : ∀ e, e < y → sumTo (fun a => (!decide (x ≤ a ∧ y ≤ e)).toNat) W = W := by
    intro e he
    rw [sumTo_congr (g := fun _ => 1) (fun a _ => by rw [decide_eq_false (by omega)]; rfl), sumTo_const]; omega
  have r2 : ∀ e, y ≤ e → sumTo (fun a => (!decide (x ≤ a ∧ y ≤ e)).toNat) W = x := by
    intro e he
    rw [show W = x + (W - x) from by omega, sumTo_add, sumTo_congr (n := x) (g := fun _ => 1) (fun a ha => by rw [decide_eq_false (by omega)]; rfl), sumTo_congr (n := W - x) (g := fun _ => 0) (fun a _ => by rw [decide_eq_true (by omega)]; rfl), sumTo_const, sumTo_const]; omega
  unfold cnt
  rw [show H = y + (H - y) from by omega, sumTo_add, sumTo_congr (n := y) (g := fun _ => W) (fun e he => r1 e he), sumTo_congr (n := H - y) (g := fun _ => x) (fun e _ => r2 (y + e) (by omega)), sumTo_const, sumTo_const]
  rw [show y + (H - y) - y = H - y from by omega]
  obtain ⟨u, rfl⟩ : ∃ u, W = x + u := ⟨W - x, by omega⟩
  obtain ⟨v, rfl⟩ : ∃ v, H = y + v := ⟨H - y, by omega⟩
  rw [show x + u - x = u from by omega, show y + v - y = v from by omega]
  simp only [Nat.mul_add, Nat.add_mul]
  rw [Nat.mul_comm y x, Nat.mul_comm y u, Nat.mul_comm v x]
  omega

end Go.Proofs.Ytcopbjinnegfoab
