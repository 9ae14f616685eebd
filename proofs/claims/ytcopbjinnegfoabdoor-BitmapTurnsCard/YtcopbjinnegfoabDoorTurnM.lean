/- Counts and pixels of rasters that are turned, mirrored, inverted. -/
import Derived.Test.YtcopbjinnegfoabDoorCnt
import Derived.Test.YtcopbjinnegfoabDoorTurn
import Derived.Test.YtcopbjinnegfoabDoorMirror
namespace Go.Proofs.YtcopbjinnegfoabDoor

theorem sumTo_swap (f : Nat → Nat → Nat) (m : Nat) : ∀ n, sumTo (fun y => sumTo (fun x => f x y) m) n = sumTo (fun x => sumTo (fun y => f x y) n) m
  | 0 => by simp [sumTo, sumTo_zero]
  | n + 1 => by
    simp only [sumTo]
    rw [sumTo_swap f m n, ← sumTo_plus]
theorem sumTo_back (f : Nat → Nat) : ∀ n, sumTo (fun k => f (n - 1 - k)) n = sumTo f n
  | 0 => rfl
  | n + 1 => by
    have h := sumTo_add (fun k => f (n + 1 - 1 - k)) 1 n
    rw [Nat.add_comm 1 n] at h
    rw [h]
    simp only [sumTo]
    rw [sumTo_congr (g := fun k => f (n - 1 - k)) (fun k _ => by rw [show n + 1 - 1 - (1 + k) = n - 1 - k from by omega]), sumTo_back f n]
    simp
    omega

theorem cnt_turn (W H : Nat) (P : Nat → Nat → Bool) : cnt H W (turnPix H P) = cnt W H P := by
  unfold cnt turnPix
  rw [sumTo_swap (fun x y => (P x y).toNat) W H]
  apply sumTo_congr
  intro e _
  exact sumTo_back (fun y => (P e y).toNat) H
theorem cnt_not (W H : Nat) (P : Nat → Nat → Bool) : cnt W H (fun a e => !P a e) + cnt W H P = W * H := by
  unfold cnt
  rw [← sumTo_plus, Nat.mul_comm, ← sumTo_const W H]
  apply sumTo_congr
  intro y _
  rw [← sumTo_plus]
  have e : sumTo (fun k => ((fun a e => !P a e) k y).toNat + (P k y).toNat) W = sumTo (fun _ => 1) W := sumTo_congr (fun x _ => by
    dsimp only
    generalize P x y = p
    cases p <;> decide)
  rw [e, sumTo_const]; omega

theorem mir_mir (W : Nat) (P : Nat → Nat → Bool) : ∀ x y, x < W → mirPix W (mirPix W P) x y = P x y := by
  intro x y hx
  unfold mirPix
  rw [show W - 1 - (W - 1 - x) = x from by omega]
theorem turn4 (W H : Nat) (P : Nat → Nat → Bool) : ∀ x y, x < W → y < H → turnPix W (turnPix H (turnPix W (turnPix H P))) x y = P x y := by
  intro x y hx hy
  unfold turnPix
  rw [show W - 1 - (W - 1 - x) = x from by omega, show H - 1 - (H - 1 - y) = y from by omega]
theorem mir_turn (W H : Nat) (P : Nat → Nat → Bool) : ∀ x y, x < H → y < W → mirPix H (turnPix H P) x y = turnPix H (turnPix W (turnPix H (mirPix W P))) x y := by
  intro x y hx hy
  unfold turnPix mirPix
  rw [show W - 1 - (W - 1 - y) = y from by omega]
theorem turn_at (H : Nat) (P : Nat → Nat → Bool) (x y : Nat) (hy : y < H) : turnPix H P (H - 1 - y) x = P x y := by
  unfold turnPix
  rw [show H - 1 - (H - 1 - y) = y from by omega]

end Go.Proofs.YtcopbjinnegfoabDoor
