/- The reference's Density, Unlike, Center. -/
import Derived.Test.YtnfmcdhllplgmaaDoorMk
namespace Go.Proofs.YtnfmcdhllplgmaaDoor
open Go.RowKit Ieee

theorem divide_nat (n d : Nat) (hn : n ≤ 9007199254740992) (w : World) :
    Calls Tryd.prog 24 #[.int .i64 (n : Int), .int .i64 (d : Int)] w fun e w' => ∃ x, e = .returned (.float .f64 x) ∧ ShP (n : Int) (d : Int) x ∧ Fr (fun _ => False) w w' :=
  divide_ok (n : Int) (d : Int) (exB_nat hn) w

set_option maxRecDepth 100000 in
set_option maxHeartbeats 4000000 in
theorem rcenter_ok (W H : Nat) (v : Value) (P : Nat → Nat → Bool) (w : World) (hv : Vb w v W H P) :
    Calls Tryd.prog 11 #[.agg #[.int .i64 W, .int .i64 H, v]] w fun e w' => ∃ x y, e = .returned (.tuple #[.float .f64 x, .float .f64 y]) ∧ ShP ((sumXs W H P : Nat) : Int) ((cnt W H P : Nat) : Int) x ∧ ShP ((sumYs W H P : Nat) : Int) ((cnt W H P : Nat) : Int) y ∧ Fr (fun _ => False) w w' := by
  obtain ⟨a1, a2, a3⟩ := hv.le
  have a4 := hv.area
  have bX : sumXs W H P ≤ 1099511627776 := Nat.le_trans (sumXs_le W H P) (by rw [← Nat.mul_assoc, Nat.mul_comm H W]; exact big_le a4 a1)
  have bY : sumYs W H P ≤ 1099511627776 := Nat.le_trans (sumYs_le W H P) (big_le a2 a4)
  have HD0 : ∀ K M : Nat, K ≤ 1099511627776 → ∀ w', Calls Tryd.prog 24 #[.int .i64 (K : Int), .int .i64 (M : Int)] w' fun e w'' => ∃ x, e = .returned (.float .f64 x) ∧ ShP (K : Int) (M : Int) x ∧ Fr (fun _ => False) w' w'' := fun K M h1 w' => divide_nat K M (by omega) w'
  have HDX1 := HD0 (sumXs W H P) (cnt W H P) bX
  have HDX : Hid _ := HDX1
  have HDY1 := HD0 (sumYs W H P) (cnt W H P) bY
  have HDY : Hid _ := HDY1
  have HCN : Hid (∀ w', Fr (fun _ => False) w w' → Calls Tryd.prog 26 #[.agg #[.int .i64 W, .int .i64 H, v]] w' fun e w'' => e = .returned (.int .i64 (cnt W H P : Nat)) ∧ Fr (fun _ => False) w' w'') := fun w' f => zcount_any W H v P w' (hv.kept f).seen hv.w1 hv.h1 hv.area
  have HG : Hid (∀ (x y : Nat), x < W → y < H → ∀ w', Fr (fun _ => False) w w' → Calls Tryd.prog 25 #[.agg #[.int .i64 W, .int .i64 H, v], .int .i64 (x : Int), .int .i64 (y : Int)] w' fun e w'' => e = .returned (.int .i64 ((P x y).toNat : Nat)) ∧ Fr (fun _ => False) w' w'') := fun x y hx hy w' f => by
    have := zget_any W H v P x y w' (hv.kept f).seen hv.w1 hv.h1 hv.area
    rw [getPix_in hx hy] at this; exact this
  have HBX1 : Hid (∀ y x, y < H → x ≤ W → sumTo (fun y => sumTo (fun x => (P x y).toNat * x) W) y + sumTo (fun x => (P x y).toNat * x) x ≤ 1099511627776) := fun y x hy hx => by
    refine Nat.le_trans ?_ bX
    unfold sumXs
    refine Nat.le_trans (Nat.add_le_add_left (sumTo_mono _ hx) _) ?_
    exact sumTo_mono (fun y => sumTo (fun x => (P x y).toNat * x) W) (show y + 1 ≤ H by omega)
  have HBY1 : Hid (∀ y x, y < H → x ≤ W → sumTo (fun y => sumTo (fun x => (P x y).toNat * y) W) y + sumTo (fun x => (P x y).toNat * y) x ≤ 1099511627776) := fun y x hy hx => by
    refine Nat.le_trans ?_ bY
    unfold sumYs
    refine Nat.le_trans (Nat.add_le_add_left (sumTo_mono _ hx) _) ?_
    exact sumTo_mono (fun y => sumTo (fun x => (P x y).toNat * y) W) (show y + 1 ≤ H by omega)
  clear HD0 HDX1 HDY1 hv bX bY
  have HA : Hid (Fr (fun _ => False) w (w.alloc (.cells #[.int .i64 W, .int .i64 H, v] 25))) := (Fr.refl _ _).alloc _
  have HBX : Hid (∀ w', Fr (fun _ => False) (w.alloc (.cells #[.int .i64 W, .int .i64 H, v] 25)) w' → w'.cell? ⟨w.heap.size, 0, none⟩ = some (.int .i64 W) ∧ w'.cell? ⟨w.heap.size, 1, none⟩ = some (.int .i64 H) ∧ w'.cell? ⟨w.heap.size, 2, none⟩ = some v) := fun w' hf => cells3_of hf
  go_enter Tryd.func11, Tryd.ntmps11
  go_wp2_with fail
  generalize w.alloc (.cells #[.int .i64 W, .int .i64 H, v] 25) = w0 at *
  go_loopg [4, 5, 6, 7] H (fun q sx sy y _ wr => ∃ (j X Y : Nat), j + q = H ∧ y = .int .i64 (j : Int) ∧ sx = .int .i64 (X : Int) ∧ sy = .int .i64 (Y : Int) ∧ Hid (X = sumTo (fun y => sumTo (fun x => (P x y).toNat * x) W) j ∧ Y = sumTo (fun y => sumTo (fun x => (P x y).toNat * y) W) j) ∧ Fr (fun _ => False) w0 wr)
  case atStart => exact ⟨0, 0, 0, by omega, rfl, rfl, rfl, ⟨rfl, rfl⟩, Fr.refl _ _⟩
  case round =>
    obtain ⟨j, X, Y, hjq, rfl, rfl, rfl, HB, hfr⟩ := hrel
    have HFr : Hid (Fr (fun _ => False) w0 wr) := hfr
    obtain ⟨c0, c1, c2⟩ := HBX.out _ hfr
    clear hfr
    by_cases h1 : j < H
    · have d1 : decide (j < H) = true := decide_eq_true h1
      go_wp2_with fail
      clear c0 c1 c2
      go_loopg [4, 5, 7] W (fun q sx sy x w2 => ∃ (i A B : Nat), i + q = W ∧ x = .int .i64 (i : Int) ∧ sx = .int .i64 (A : Int) ∧ sy = .int .i64 (B : Int) ∧ Hid (A = X + sumTo (fun x => (P x j).toNat * x) i ∧ B = Y + sumTo (fun x => (P x j).toNat * j) i) ∧ Fr (fun _ => False) w0 w2)
      case atStart => exact ⟨0, X, Y, by omega, rfl, rfl, rfl, ⟨rfl, rfl⟩, HFr.out⟩
      case round =>
        obtain ⟨i, A, B, hiq, rfl, rfl, rfl, HAB, hfr2⟩ := hrel
        have HF2 : Hid (Fr (fun _ => False) w0 wr) := hfr2
        obtain ⟨c0, c1, c2⟩ := HBX.out _ hfr2
        clear hfr2
        have hA : A ≤ 1099511627776 := by rw [HAB.out.1, HB.out.1]; exact HBX1.out j i h1 (by omega)
        have hB : B ≤ 1099511627776 := by rw [HAB.out.2, HB.out.2]; exact HBY1.out j i h1 (by omega)
        by_cases h2 : i < W
        · have d2 : decide (i < W) = true := decide_eq_true h2
          have HGG := HG.out i j h2 h1
          have HGH : Hid _ := HGG
          clear HGG
          have HS1 : Hid (A + i * (P i j).toNat = X + sumTo (fun x => (P x j).toNat * x) (i + 1)) := by
            rw [HAB.out.1, Nat.mul_comm i, Nat.add_assoc]; rfl
          have HS2 : Hid (B + j * (P i j).toNat = Y + sumTo (fun x => (P x j).toNat * j) (i + 1)) := by
            rw [HAB.out.2, Nat.mul_comm j, Nat.add_assoc]; rfl
          have hp : (P i j).toNat ≤ 1 := by cases P i j <;> decide
          generalize (P i j).toNat = p at *
          have hz1 : i * p ≤ 1048576 := by rcases (show p = 0 ∨ p = 1 by omega) with rfl | rfl <;> omega
          have hz2 : j * p ≤ 1048576 := by rcases (show p = 0 ∨ p = 1 by omega) with rfl | rfl <;> omega
          have n1 : (i : Int) * (p : Int) = ((i * p : Nat) : Int) := by simp
          have n2 : (j : Int) * (p : Int) = ((j * p : Nat) : Int) := by simp
          generalize i * p = z1 at *
          generalize j * p = z2 at *
          go_wp2_with fail
          refine (HGH.out _ (HA.out.trans HF2.out (fun _ _ h => h))).mono ?_
          rintro e w3 ⟨rfl, hf3⟩
          have HF3 : Hid (Fr (fun _ => False) w0 w3) := HF2.out.trans hf3 (fun _ _ h => h)
          clear hf3 c0 c1 c2
          obtain ⟨c0, c1, c2⟩ := HBX.out _ HF3.out
          go_wp2_with fail
          refine (HGH.out _ (HA.out.trans HF3.out (fun _ _ h => h))).mono ?_
          rintro e w4 ⟨rfl, hf4⟩
          have HF4 : Hid (Fr (fun _ => False) w0 w4) := HF3.out.trans hf4 (fun _ _ h => h)
          clear hf4
          go_wp2_with fail
          go_roundg (W - (i + 1))
          case measure => omega
          case rel => exact ⟨i + 1, A + z1, B + z2, by omega, congrArg (Value.int .i64) (by omega), congrArg (Value.int .i64) (by omega), congrArg (Value.int .i64) (by omega), ⟨HS1.out, HS2.out⟩, HF4.out⟩
        · have d2 : decide (i < W) = false := decide_eq_false h2
          have hi : i = W := by omega
          have HS : Hid (A = sumTo (fun y => sumTo (fun x => (P x y).toNat * x) W) (j + 1) ∧ B = sumTo (fun y => sumTo (fun x => (P x y).toNat * y) W) (j + 1)) := by
            obtain ⟨e1, e2⟩ := HAB.out
            rw [hi, HB.out.1] at e1
            rw [hi, HB.out.2] at e2
            exact ⟨e1, e2⟩
          clear hi
          go_wp2_with fail
          go_roundg (H - (j + 1))
          case measure => omega
          case rel => exact ⟨j + 1, A, B, by omega, congrArg (Value.int .i64) (by omega), rfl, rfl, HS.out, HF2.out⟩
    · have d1 : decide (j < H) = false := decide_eq_false h1
      have hj : j = H := by omega
      have HE : Hid (X = sumXs W H P ∧ Y = sumYs W H P) := by
        obtain ⟨e1, e2⟩ := HB.out
        rw [hj] at e1 e2
        exact ⟨e1, e2⟩
      rw [← HE.out.1] at HDX
      rw [← HE.out.2] at HDY
      clear hj
      go_wp2_with fail
      refine (HCN.out _ (HA.out.trans HFr.out (fun _ _ h => h))).mono ?_
      rintro e w3 ⟨rfl, hf3⟩
      have HF3 : Hid (Fr (fun _ => False) w w3) := (HA.out.trans HFr.out (fun _ _ h => h)).trans hf3 (fun _ _ h => h)
      clear hf3 c0 c1 c2
      go_wp2_with fail
      refine (HDX.out _).mono ?_
      rintro e w4 ⟨x, rfl, hx, hf4⟩
      have HX : Hid (ShP (X : Int) ((cnt W H P : Nat) : Int) x ∧ Fr (fun _ => False) w w4) := ⟨hx, HF3.out.trans hf4 (fun _ _ h => h)⟩
      clear hx hf4
      go_wp2_with fail
      refine (HDY.out _).mono ?_
      rintro e w5 ⟨y, rfl, hy, hf5⟩
      have HY : Hid (ShP (Y : Int) ((cnt W H P : Nat) : Int) y ∧ Fr (fun _ => False) w w5) := ⟨hy, HX.out.2.trans hf5 (fun _ _ h => h)⟩
      clear hy hf5
      go_wp2_with fail
      all_goals (go_ret2; exact ⟨_, _, rfl, by rw [← HE.out.1]; exact HX.out.1, by rw [← HE.out.2]; exact HY.out.1, HY.out.2⟩)

end Go.Proofs.YtnfmcdhllplgmaaDoor
