/- The reference's Unlike: of bitmaps of one size the share of the pixels that are unlike, of others the infinity above. -/
import Derived.Test.YtodgdbbhllejkaaK4
namespace Go.Proofs.Ytodgdbbhllejkaa
open Go.RowKit Ieee

set_option maxRecDepth 100000 in
set_option maxHeartbeats 4000000 in
theorem runlike_far (W H W' H' : Nat) (v v' : Value) (w : World) (hne : W ≠ W' ∨ H ≠ H') :
    Calls Try.prog 29 #[.agg #[.int .i64 W, .int .i64 H, v], .agg #[.int .i64 W', .int .i64 H', v']] w fun e w' => ∃ x, e = .returned (.float .f64 x) ∧ ShP (1 : Int) (0 : Int) x ∧ Fr (fun _ => False) w w' := by
  have HD : Hid (∀ w', Calls Try.prog 45 #[.int .i64 (1 : Int), .int .i64 (0 : Int)] w' fun e w'' => ∃ x, e = .returned (.float .f64 x) ∧ ShP (1 : Int) (0 : Int) x ∧ Fr (fun _ => False) w' w'') := fun w' => divide_nat 1 0 (by omega) w'
  have HA : Hid (Fr (fun _ => False) w ((w.alloc (.cells #[.int .i64 W, .int .i64 H, v] 48)).alloc (.cells #[.int .i64 W', .int .i64 H', v'] 48))) := ((Fr.refl _ _).alloc _).alloc _
  have HBX : Hid (∀ w', Fr (fun _ => False) ((w.alloc (.cells #[.int .i64 W, .int .i64 H, v] 48)).alloc (.cells #[.int .i64 W', .int .i64 H', v'] 48)) w' → (w'.cell? ⟨w.heap.size, 0, none⟩ = some (.int .i64 W) ∧ w'.cell? ⟨w.heap.size, 1, none⟩ = some (.int .i64 H) ∧ w'.cell? ⟨w.heap.size, 2, none⟩ = some v) ∧ (w'.cell? ⟨w.heap.size + 1, 0, none⟩ = some (.int .i64 W') ∧ w'.cell? ⟨w.heap.size + 1, 1, none⟩ = some (.int .i64 H') ∧ w'.cell? ⟨w.heap.size + 1, 2, none⟩ = some v')) := fun w' hf => by
    obtain ⟨a, b, c, _⟩ := cell_of_three (blkOld hf (blkUp (heap_alloc_new w (.cells #[.int .i64 W, .int .i64 H, v] 48)) _))
    obtain ⟨a', b', c', _⟩ := cell_of_three (blkOld hf (by have := heap_alloc_new (w.alloc (.cells #[.int .i64 W, .int .i64 H, v] 48)) (.cells #[.int .i64 W', .int .i64 H', v'] 48); rwa [World.size_alloc] at this))
    exact ⟨⟨a, b, c⟩, a', b', c'⟩
  obtain ⟨⟨c0, c1, c2⟩, e0, e1, e2⟩ := HBX.out _ (Fr.refl _ _)
  have HNE : Hid (W ≠ W' ∨ H ≠ H') := hne
  clear hne
  by_cases hw : W = W'
  · have g0 : ((W : Int) != (W' : Int)) = false := by rw [hw]; simp
    have g1 : ((H : Int) != (H' : Int)) = true := by
      rcases HNE.out with h | h
      · exact absurd hw h
      · simp; omega
    clear hw
    go_enter Try.func29, Try.ntmps29
    go_wp2_with fail
    generalize (w.alloc (.cells #[.int .i64 W, .int .i64 H, v] 48)).alloc (.cells #[.int .i64 W', .int .i64 H', v'] 48) = w0 at *
    refine (HD.out _).mono ?_
    rintro e w3 ⟨x, rfl, hx, hf⟩
    have HX : Hid (ShP (1 : Int) (0 : Int) x ∧ Fr (fun _ => False) w w3) := ⟨hx, HA.out.trans hf (fun _ _ h => h)⟩
    clear hx hf
    go_wp2_with fail
    all_goals (go_ret; exact ⟨_, rfl, HX.out⟩)
  · have g0 : ((W : Int) != (W' : Int)) = true := by simp; omega
    clear hw
    go_enter Try.func29, Try.ntmps29
    go_wp2_with fail
    generalize (w.alloc (.cells #[.int .i64 W, .int .i64 H, v] 48)).alloc (.cells #[.int .i64 W', .int .i64 H', v'] 48) = w0 at *
    refine (HD.out _).mono ?_
    rintro e w3 ⟨x, rfl, hx, hf⟩
    have HX : Hid (ShP (1 : Int) (0 : Int) x ∧ Fr (fun _ => False) w w3) := ⟨hx, HA.out.trans hf (fun _ _ h => h)⟩
    clear hx hf
    go_wp2_with fail
    all_goals (go_ret; exact ⟨_, rfl, HX.out⟩)

set_option maxRecDepth 100000 in
set_option maxHeartbeats 4000000 in
theorem runlike_ok (W H : Nat) (v v' : Value) (P Q : Nat → Nat → Bool) (w : World) (hv : Vb w v W H P) (hv' : Vb w v' W H Q) :
    Calls Try.prog 29 #[.agg #[.int .i64 W, .int .i64 H, v], .agg #[.int .i64 W, .int .i64 H, v']] w fun e w' => ∃ x, e = .returned (.float .f64 x) ∧ ShP ((unl W H P Q : Nat) : Int) ((W * H : Nat) : Int) x ∧ Fr (fun _ => False) w w' := by
  obtain ⟨a1, a2, a3⟩ := hv.le
  have a4 := hv.area
  have hul : unl W H P Q ≤ 1048576 := by have := unl_le W H P Q; have h2 := hv.area; rw [Nat.mul_comm] at h2; omega
  have HD0 : ∀ K M : Nat, K ≤ 1048576 → ∀ w', Calls Try.prog 45 #[.int .i64 (K : Int), .int .i64 (M : Int)] w' fun e w'' => ∃ x, e = .returned (.float .f64 x) ∧ ShP (K : Int) (M : Int) x ∧ Fr (fun _ => False) w' w'' := fun K M h1 w' => divide_nat K M (by omega) w'
  have HD1 := HD0 (unl W H P Q) (W * H) hul
  have HD : Hid _ := HD1
  have HG : Hid (∀ (x y : Nat), x < W → y < H → ∀ w', Fr (fun _ => False) w w' → Calls Try.prog 46 #[.agg #[.int .i64 W, .int .i64 H, v], .int .i64 (x : Int), .int .i64 (y : Int)] w' fun e w'' => e = .returned (.int .i64 ((P x y).toNat : Nat)) ∧ Fr (fun _ => False) w' w'') := fun x y hx hy w' f => by
    have := zget_any W H v P x y w' (hv.kept f).seen hv.w1 hv.h1 hv.area
    rw [getPix_in hx hy] at this; exact this
  have HG' : Hid (∀ (x y : Nat), x < W → y < H → ∀ w', Fr (fun _ => False) w w' → Calls Try.prog 46 #[.agg #[.int .i64 W, .int .i64 H, v'], .int .i64 (x : Int), .int .i64 (y : Int)] w' fun e w'' => e = .returned (.int .i64 ((Q x y).toNat : Nat)) ∧ Fr (fun _ => False) w' w'') := fun x y hx hy w' f => by
    have := zget_any W H v' Q x y w' (hv'.kept f).seen hv'.w1 hv'.h1 hv'.area
    rw [getPix_in hx hy] at this; exact this
  have HBX1 : Hid (∀ y x, y < H → x ≤ W → sumTo (fun y => sumTo (fun x => (P x y != Q x y).toNat) W) y + sumTo (fun x => (P x y != Q x y).toNat) x ≤ 1048576) := fun y x hy hx => by
    refine Nat.le_trans ?_ hul
    unfold unl
    refine Nat.le_trans (Nat.add_le_add_left (sumTo_mono _ hx) _) ?_
    exact sumTo_mono (fun y => sumTo (fun x => (P x y != Q x y).toNat) W) (show y + 1 ≤ H by omega)
  clear HD0 HD1 hv hv' hul
  have hmul : ((W : Int) * (H : Int)) = ((W * H : Nat) : Int) := by rw [Int.natCast_mul]
  generalize W * H = M at *
  have hw3 : IntKind.i64.wrap (M : Int) = (M : Int) := by rw [IntKind.wrap_i64]; omega
  have HA : Hid (Fr (fun _ => False) w ((w.alloc (.cells #[.int .i64 W, .int .i64 H, v] 48)).alloc (.cells #[.int .i64 W, .int .i64 H, v'] 48))) := ((Fr.refl _ _).alloc _).alloc _
  have HBX : Hid (∀ w', Fr (fun _ => False) ((w.alloc (.cells #[.int .i64 W, .int .i64 H, v] 48)).alloc (.cells #[.int .i64 W, .int .i64 H, v'] 48)) w' → (w'.cell? ⟨w.heap.size, 0, none⟩ = some (.int .i64 W) ∧ w'.cell? ⟨w.heap.size, 1, none⟩ = some (.int .i64 H) ∧ w'.cell? ⟨w.heap.size, 2, none⟩ = some v) ∧ (w'.cell? ⟨w.heap.size + 1, 0, none⟩ = some (.int .i64 W) ∧ w'.cell? ⟨w.heap.size + 1, 1, none⟩ = some (.int .i64 H) ∧ w'.cell? ⟨w.heap.size + 1, 2, none⟩ = some v')) := fun w' hf => by
    obtain ⟨a, b, c, _⟩ := cell_of_three (blkOld hf (blkUp (heap_alloc_new w (.cells #[.int .i64 W, .int .i64 H, v] 48)) _))
    obtain ⟨a', b', c', _⟩ := cell_of_three (blkOld hf (by have := heap_alloc_new (w.alloc (.cells #[.int .i64 W, .int .i64 H, v] 48)) (.cells #[.int .i64 W, .int .i64 H, v'] 48); rwa [World.size_alloc] at this))
    exact ⟨⟨a, b, c⟩, a', b', c'⟩
  obtain ⟨⟨c0, c1, c2⟩, e0, e1, e2⟩ := HBX.out _ (Fr.refl _ _)
  have g0 : ((W : Int) != (W : Int)) = false := by simp
  have g1 : ((H : Int) != (H : Int)) = false := by simp
  go_enter Try.func29, Try.ntmps29
  go_wp2_with fail
  generalize (w.alloc (.cells #[.int .i64 W, .int .i64 H, v] 48)).alloc (.cells #[.int .i64 W, .int .i64 H, v'] 48) = w0 at *
  clear c0 c1 c2 e0 e1 e2
  go_loopg [5, 6, 7] H (fun q n y _ wr => ∃ (j X : Nat), j + q = H ∧ y = .int .i64 (j : Int) ∧ n = .int .i64 (X : Int) ∧ Hid (X = sumTo (fun y => sumTo (fun x => (P x y != Q x y).toNat) W) j) ∧ Fr (fun _ => False) w0 wr)
  case atStart => exact ⟨0, 0, by omega, rfl, rfl, rfl, Fr.refl _ _⟩
  case round =>
    obtain ⟨j, X, hjq, rfl, rfl, HB, hfr⟩ := hrel
    have HFr : Hid (Fr (fun _ => False) w0 wr) := hfr
    obtain ⟨⟨c0, c1, c2⟩, e0, e1, e2⟩ := HBX.out _ hfr
    clear hfr
    by_cases h1 : j < H
    · have d1 : decide (j < H) = true := decide_eq_true h1
      go_wp2_with fail
      clear c0 c1 c2 e0 e1 e2
      go_loopg [5, 7] W (fun q n x w2 => ∃ (i A : Nat), i + q = W ∧ x = .int .i64 (i : Int) ∧ n = .int .i64 (A : Int) ∧ Hid (A = X + sumTo (fun x => (P x j != Q x j).toNat) i) ∧ Fr (fun _ => False) w0 w2)
      case atStart => exact ⟨0, X, by omega, rfl, rfl, rfl, HFr.out⟩
      case round =>
        obtain ⟨i, A, hiq, rfl, rfl, HAB, hfr2⟩ := hrel
        have HF2 : Hid (Fr (fun _ => False) w0 wr) := hfr2
        obtain ⟨⟨c0, c1, c2⟩, e0, e1, e2⟩ := HBX.out _ hfr2
        clear hfr2
        have hA : A ≤ 1048576 := by rw [HAB.out, HB.out]; exact HBX1.out j i h1 (by omega)
        by_cases h2 : i < W
        · have d2 : decide (i < W) = true := decide_eq_true h2
          have HGH : Hid _ := HG.out i j h2 h1
          have HGK : Hid _ := HG'.out i j h2 h1
          have HS1 : Hid (A + (P i j != Q i j).toNat = X + sumTo (fun x => (P x j != Q x j).toNat) (i + 1)) := by
            rw [HAB.out, Nat.add_assoc]; rfl
          have hpq : (P i j != Q i j).toNat = if (P i j).toNat = (Q i j).toNat then 0 else 1 := by cases P i j <;> cases Q i j <;> rfl
          generalize (P i j != Q i j).toNat = t at *
          generalize (P i j).toNat = p at *
          generalize (Q i j).toNat = q at *
          by_cases h3 : p = q
          · rw [if_pos h3] at hpq
            have g3 : ((p : Int) != (q : Int)) = false := by rw [h3]; simp
            clear h3
            go_wp2_with fail
            go_region_held3 (fun w' => (w'.cell? ⟨w.heap.size, 0, none⟩ = some (.int .i64 W) ∧ w'.cell? ⟨w.heap.size, 1, none⟩ = some (.int .i64 H) ∧ w'.cell? ⟨w.heap.size, 2, none⟩ = some v) ∧ (w'.cell? ⟨w.heap.size + 1, 0, none⟩ = some (.int .i64 W) ∧ w'.cell? ⟨w.heap.size + 1, 1, none⟩ = some (.int .i64 H) ∧ w'.cell? ⟨w.heap.size + 1, 2, none⟩ = some v')) (first | exact HBX.out _ HF2.out.drew | exact HBX.out _ hf3' | exact HBX.out _ hf4') (first | (go_at_call 46; (have _ := hf3'); refine (HGK.out _ (HA.out.trans hf3' (fun _ _ h => h))).mono ?_; rintro e w4 ⟨rfl, hf4⟩; (have hf4' : Fr (fun _ => False) w0 w4 := hf3'.trans hf4 (fun _ _ h => h))) | (go_at_call 46; refine (HGH.out _ (HA.out.trans HF2.out.drew (fun _ _ h => h))).mono ?_; rintro e w3 ⟨rfl, hf3⟩; (have hf3' : Fr (fun _ => False) w0 w3 := HF2.out.drew.trans hf3 (fun _ _ h => h))))
            all_goals
              have HF4 : Hid (Fr (fun _ => False) w0 w4) := hf4'
              clear hf3 hf4 hf3' hf4'
              go_wp2_with fail
              go_roundg (W - (i + 1))
              case measure => omega
              case rel => exact ⟨i + 1, A, by omega, congrArg (Value.int .i64) (by omega), rfl, (by have := HS1.out; rw [hpq] at this; exact this), HF4.out⟩
          · rw [if_neg h3] at hpq
            have g3 : ((p : Int) != (q : Int)) = true := by simp; omega
            clear h3
            go_wp2_with fail
            go_region_held3 (fun w' => (w'.cell? ⟨w.heap.size, 0, none⟩ = some (.int .i64 W) ∧ w'.cell? ⟨w.heap.size, 1, none⟩ = some (.int .i64 H) ∧ w'.cell? ⟨w.heap.size, 2, none⟩ = some v) ∧ (w'.cell? ⟨w.heap.size + 1, 0, none⟩ = some (.int .i64 W) ∧ w'.cell? ⟨w.heap.size + 1, 1, none⟩ = some (.int .i64 H) ∧ w'.cell? ⟨w.heap.size + 1, 2, none⟩ = some v')) (first | exact HBX.out _ HF2.out.drew | exact HBX.out _ hf3' | exact HBX.out _ hf4') (first | (go_at_call 46; (have _ := hf3'); refine (HGK.out _ (HA.out.trans hf3' (fun _ _ h => h))).mono ?_; rintro e w4 ⟨rfl, hf4⟩; (have hf4' : Fr (fun _ => False) w0 w4 := hf3'.trans hf4 (fun _ _ h => h))) | (go_at_call 46; refine (HGH.out _ (HA.out.trans HF2.out.drew (fun _ _ h => h))).mono ?_; rintro e w3 ⟨rfl, hf3⟩; (have hf3' : Fr (fun _ => False) w0 w3 := HF2.out.drew.trans hf3 (fun _ _ h => h))))
            all_goals
              have HF4 : Hid (Fr (fun _ => False) w0 w4) := hf4'
              clear hf3 hf4 hf3' hf4'
              go_wp2_with fail
              go_roundg (W - (i + 1))
              case measure => omega
              case rel => exact ⟨i + 1, A + 1, by omega, congrArg (Value.int .i64) (by omega), congrArg (Value.int .i64) (by omega), (by have := HS1.out; rw [hpq] at this; exact this), HF4.out⟩
        · have d2 : decide (i < W) = false := decide_eq_false h2
          have hi : i = W := by omega
          have HS : Hid (A = sumTo (fun y => sumTo (fun x => (P x y != Q x y).toNat) W) (j + 1)) := by
            have e1 := HAB.out
            rw [hi, HB.out] at e1
            exact e1
          clear hi
          go_wp2_with fail
          go_roundg (H - (j + 1))
          case measure => omega
          case rel => exact ⟨j + 1, A, by omega, congrArg (Value.int .i64) (by omega), rfl, HS.out, HF2.out⟩
    · have d1 : decide (j < H) = false := decide_eq_false h1
      have hj : j = H := by omega
      have HE : Hid (X = unl W H P Q) := by
        have e1 := HB.out
        rw [hj] at e1
        exact e1
      rw [← HE.out] at HD
      have hX : X ≤ 1048576 := by
        by_cases h0 : H = 0
        · rw [HE.out]; unfold unl; rw [h0]; exact Nat.zero_le _
        · exact Nat.le_trans (by rw [HE.out]; exact Nat.le_refl _) (show unl W H P Q ≤ 1048576 from by
            have := HBX1.out (H - 1) W (by omega) (Nat.le_refl _)
            unfold unl
            rw [show H = (H - 1) + 1 by omega]
            exact this)
      clear hj
      go_wp2_with fail
      refine (HD.out _).mono ?_
      rintro e w4 ⟨x, rfl, hx, hf4⟩
      have HX : Hid (ShP (X : Int) (M : Int) x ∧ Fr (fun _ => False) w w4) := ⟨hx, (HA.out.trans HFr.out (fun _ _ h => h)).trans hf4 (fun _ _ h => h)⟩
      clear hx hf4
      go_wp2_with fail
      all_goals (go_ret; exact ⟨_, rfl, by rw [← HE.out]; exact HX.out.1, HX.out.2⟩)
end Go.Proofs.Ytodgdbbhllejkaa
