/- Center. -/
import Derived.Test.YtnfmcdhllplgmaaDoorMc
import Derived.OwnWalk
namespace Go.Proofs.YtnfmcdhllplgmaaDoor
open Go.RowKit Ieee

theorem sumXs_le (W H : Nat) (P : Nat → Nat → Bool) : sumXs W H P ≤ H * (W * W) := by
  unfold sumXs
  have : sumTo (fun y => sumTo (fun x => (P x y).toNat * x) W) H ≤ sumTo (fun _ => W * W) H := sumTo_le (fun y _ => by
    have h2 : sumTo (fun x => (P x y).toNat * x) W ≤ sumTo (fun _ => W) W := sumTo_le (fun x hx => by cases P x y <;> simp; omega)
    rw [sumTo_const] at h2; exact h2)
  rw [sumTo_const] at this; exact this
theorem sumYs_le (W H : Nat) (P : Nat → Nat → Bool) : sumYs W H P ≤ H * (W * H) := by
  unfold sumYs
  have : sumTo (fun y => sumTo (fun x => (P x y).toNat * y) W) H ≤ sumTo (fun _ => W * H) H := sumTo_le (fun y hy => by
    have h2 : sumTo (fun x => (P x y).toNat * y) W ≤ sumTo (fun _ => H) W := sumTo_le (fun x hx => by cases P x y <;> simp; omega)
    rw [sumTo_const] at h2; exact h2)
  rw [sumTo_const] at this; exact this
theorem big_le {a b : Nat} (h1 : a ≤ 1048576) (h2 : b ≤ 1048576) : a * b ≤ 1099511627776 := Nat.mul_le_mul h1 h2

set_option maxRecDepth 100000 in
set_option maxHeartbeats 4000000 in
theorem center_ok (W H : Nat) (v : Value) (P : Nat → Nat → Bool) (w : World) (hv : Vb w v W H P) (hT : Tab w) (h1w : 1 < w.heap.size) :
    Calls Tryd.prog 7 #[.agg #[.int .i64 W, .int .i64 H, v]] w fun e w' => ∃ x y, e = .returned (.tuple #[.float .f64 x, .float .f64 y, .int .i64 0]) ∧ ShP ((sumXs W H P : Nat) : Int) ((cnt W H P : Nat) : Int) x ∧ ShP ((sumYs W H P : Nat) : Int) ((cnt W H P : Nat) : Int) y ∧ Fr (fun _ => False) w w' := by
  obtain ⟨a1, a2, a3⟩ := hv.le
  have a4 := hv.area
  have bC := cnt_area hv
  have bX : sumXs W H P ≤ 1099511627776 := Nat.le_trans (sumXs_le W H P) (by rw [← Nat.mul_assoc, Nat.mul_comm H W]; exact big_le a4 a1)
  have bY : sumYs W H P ≤ 1099511627776 := Nat.le_trans (sumYs_le W H P) (big_le a2 a4)
  have HSH0 : ∀ K M : Nat, K ≤ 1099511627776 → M ≤ 1048576 → ∀ w', Calls Tryd.prog 18 #[.int .i64 (K : Int), .int .i64 (M : Int)] w' fun e w'' => ∃ x, e = .returned (.tuple #[.float .f64 x, .int .i64 0]) ∧ ShP (K : Int) (M : Int) x ∧ Fr (fun _ => False) w' w'' := fun K M h1 h2 w' => share_nat K M (by omega) (by omega) w'
  have HSX1 := HSH0 (sumXs W H P) (cnt W H P) bX bC
  have HSX : Hid _ := HSX1
  have HSY1 := HSH0 (sumYs W H P) (cnt W H P) bY bC
  have HSY : Hid _ := HSY1
  clear HSH0 HSX1 HSY1
  obtain ⟨ao, cap, rfl⟩ := hv.slice
  have HV : Hid (∀ w', Fr (fun _ => False) w w' → Vb w' (.slice ao (H * stride W) cap) W H P) := fun w' f => hv.kept f
  have HTB : Hid (∀ w', Fr (fun _ => False) w w' → Tab w') := fun w' f => hT.kept f h1w (fun h => h)
  have HWD : Hid (∀ w', Fr (fun _ => False) w w' → ∀ j, j < H * stride W → ∃ b off, ao = some ⟨b, off, none⟩ ∧ w'.cell? ⟨b, off + j, none⟩ = some (.int .u64 (wd W P (j / stride W) (j % stride W) : Nat))) := fun w' f => (hv.kept f).words.2
  have HC1 : Hid (sumTo (fun i => pop 64 (wd W P (i / stride W) (i % stride W))) (H * stride W) = cnt W H P) := cnt_words W H P
  have HC2 : Hid (sumTo (fun i => pop 64 (wd W P (i / stride W) (i % stride W)) * (i % stride W * 64) + plc (wd W P (i / stride W) (i % stride W))) (H * stride W) = sumXs W H P) := sumX_words W H P
  have HC3 : Hid (sumTo (fun i => pop 64 (wd W P (i / stride W) (i % stride W)) * (i / stride W)) (H * stride W) = sumYs W H P) := sumY_words W H P
  have HSB : Hid (∀ j, j ≤ H * stride W → sumTo (fun i => pop 64 (wd W P (i / stride W) (i % stride W))) j ≤ 1048576 ∧ sumTo (fun i => pop 64 (wd W P (i / stride W) (i % stride W)) * (i % stride W * 64) + plc (wd W P (i / stride W) (i % stride W))) j ≤ 1099511627776 ∧ sumTo (fun i => pop 64 (wd W P (i / stride W) (i % stride W)) * (i / stride W)) j ≤ 1099511627776) := fun j hj =>
    ⟨Nat.le_trans (sumTo_mono _ hj) (by rw [HC1.out]; exact bC), Nat.le_trans (sumTo_mono _ hj) (by rw [HC2.out]; exact bX), Nat.le_trans (sumTo_mono _ hj) (by rw [HC3.out]; exact bY)⟩
  have hSp : 0 < stride W := stride_pos (by have := hv.w1; omega)
  have hH := hv.h1
  have hdiv : (((H * stride W : Nat) : Int)).tdiv (H : Int) = (stride W : Int) := by
    show ((H * stride W / H : Nat) : Int) = _
    rw [Nat.mul_div_cancel_left _ (by omega)]
  have hdiv2 : ((H * stride W : Nat) : Int) / (H : Int) = (stride W : Int) := by
    rw [← Int.natCast_ediv, Nat.mul_div_cancel_left _ (by omega)]
  have hSb : stride W ≤ 1048576 := by unfold stride; omega
  clear hv hT bC bX bY h1w a4
  generalize hN : H * stride W = N at *
  have HA : Hid (Fr (fun _ => False) w (w.alloc (.cells #[.int .i64 W, .int .i64 H, .slice ao N cap] 25))) := (Fr.refl _ _).alloc _
  have HBX : Hid (∀ w', Fr (fun _ => False) (w.alloc (.cells #[.int .i64 W, .int .i64 H, .slice ao N cap] 25)) w' → w'.cell? ⟨w.heap.size, 0, none⟩ = some (.int .i64 W) ∧ w'.cell? ⟨w.heap.size, 1, none⟩ = some (.int .i64 H) ∧ w'.cell? ⟨w.heap.size, 2, none⟩ = some (.slice ao N cap)) := fun w' hf => cells3_of hf
  clear hN
  obtain ⟨c0, c1, c2⟩ := HBX.out _ (Fr.refl _ _)
  go_enter Tryd.func7, Tryd.ntmps7
  go_wp2_with fail
  generalize w.alloc (.cells #[.int .i64 W, .int .i64 H, .slice ao N cap] 25) = w0 at *
  refine (HV.out _ HA.out).check.mono ?_
  rintro e w1 ⟨rfl, hf1⟩
  have HF1 : Hid (Fr (fun _ => False) w0 w1) := hf1
  clear hf1 c0 c1 c2
  obtain ⟨c0, c1, c2⟩ := HBX.out _ HF1.out
  go_wp2_with fail
  clear hdiv hdiv2
  go_loopg [6, 7, 8, 9, 10, 11, 24] N (fun q c sx sy _ _ _ i wr => ∃ (j C X Y : Nat), j + q = N ∧ i = .int .i64 (j : Int) ∧ c = .int .i64 (C : Int) ∧ sx = .int .i64 (X : Int) ∧ sy = .int .i64 (Y : Int) ∧ Hid (C = sumTo (fun i => pop 64 (wd W P (i / stride W) (i % stride W))) j ∧ X = sumTo (fun i => pop 64 (wd W P (i / stride W) (i % stride W)) * (i % stride W * 64) + plc (wd W P (i / stride W) (i % stride W))) j ∧ Y = sumTo (fun i => pop 64 (wd W P (i / stride W) (i % stride W)) * (i / stride W)) j) ∧ Fr (fun _ => False) w0 wr)
  case atStart => exact ⟨0, 0, 0, 0, by omega, rfl, rfl, rfl, rfl, ⟨rfl, rfl, rfl⟩, HF1.out⟩
  case round =>
    obtain ⟨j, C, X, Y, hjq, rfl, rfl, rfl, rfl, HB, hfr⟩ := hrel
    have HFr : Hid (Fr (fun _ => False) w0 wr) := hfr
    clear hfr c0 c1 c2
    have hb0 : C ≤ 1048576 ∧ X ≤ 1099511627776 ∧ Y ≤ 1099511627776 := by
      obtain ⟨e1, e2, e3⟩ := HB.out
      rw [e1, e2, e3]; exact HSB.out j (by omega)
    obtain ⟨hb1, hb2, hb3⟩ := hb0
    by_cases h1 : j < N
    · have d1 : decide (j < N) = true := decide_eq_true h1
      obtain ⟨b, off, rfl, k0⟩ := HWD.out _ (HA.out.trans HFr.out (fun _ _ h => h)) j h1
      have HX : Hid (wd W P (j / stride W) (j % stride W) < 18446744073709551616) := wd_lt _ _ _ _
      have HS1 : Hid (C + pop 64 (wd W P (j / stride W) (j % stride W)) = sumTo (fun i => pop 64 (wd W P (i / stride W) (i % stride W))) (j + 1)) := by rw [HB.out.1]; rfl
      have HS2 : Hid (X + (pop 64 (wd W P (j / stride W) (j % stride W)) * (j % stride W * 64) + plc (wd W P (j / stride W) (j % stride W))) = sumTo (fun i => pop 64 (wd W P (i / stride W) (i % stride W)) * (i % stride W * 64) + plc (wd W P (i / stride W) (i % stride W))) (j + 1)) := by rw [HB.out.2.1]; rfl
      have HS3 : Hid (Y + pop 64 (wd W P (j / stride W) (j % stride W)) * (j / stride W) = sumTo (fun i => pop 64 (wd W P (i / stride W) (i % stride W)) * (i / stride W)) (j + 1)) := by rw [HB.out.2.2]; rfl
      have hp := pop_le 64 (wd W P (j / stride W) (j % stride W))
      have hq := plc_le (wd W P (j / stride W) (j % stride W))
      have hr : j % stride W ≤ 1048576 := by have := Nat.mod_lt j hSp; omega
      have hs : j / stride W ≤ 1048576 := by have := Nat.div_le_self j (stride W); omega
      have m1 : (j : Int).tmod (stride W : Int) = ((j % stride W : Nat) : Int) := rfl
      have m2 : (j : Int) % (stride W : Int) = ((j % stride W : Nat) : Int) := (Int.natCast_emod j (stride W)).symm
      have m3 : (j : Int).tdiv (stride W : Int) = ((j / stride W : Nat) : Int) := rfl
      have m4 : (j : Int) / (stride W : Int) = ((j / stride W : Nat) : Int) := (Int.natCast_ediv j (stride W)).symm
      have hs0 : ((stride W : Int) == 0) = false := by simp; omega
      have hs1 : (0 : Int) < (stride W : Int) := by omega
      have hs2 : (stride W : Int) ≠ 0 := by omega
      have hs3 : decide ((stride W : Int) = 0) = false := decide_eq_false hs2
      generalize wd W P (j / stride W) (j % stride W) = wx at *
      generalize j % stride W = r at *
      generalize j / stride W = s at *
      have HON : Hid (∀ w', Calls Tryd.prog 19 #[.int .u64 wx] w' fun e w'' => e = .returned (.int .i64 (pop 64 wx : Nat)) ∧ w'' = w') := fun w' => ones_any wx w' HX.out
      have HPL : Hid (∀ w', Fr (fun _ => False) w w' → Calls Tryd.prog 20 #[.int .u64 wx] w' fun e w'' => e = .returned (.int .i64 (plc wx : Nat)) ∧ w'' = w') := fun w' f => places_any wx w' HX.out (HTB.out w' f)
      generalize pop 64 wx = p at *
      generalize plc wx = t at *
      obtain ⟨z1, ez1⟩ : ∃ z, p * (r * 64) = z := ⟨_, rfl⟩
      obtain ⟨z2, ez2⟩ : ∃ z, p * s = z := ⟨_, rfl⟩
      have hz1 : z1 ≤ 4294967296 := by rw [← ez1]; exact Nat.le_trans (Nat.mul_le_mul hp (Nat.mul_le_mul_right 64 hr)) (by decide)
      have hz2 : z2 ≤ 67108864 := by rw [← ez2]; exact Nat.le_trans (Nat.mul_le_mul hp hs) (by decide)
      have n1 : (p : Int) * ((r : Int) * 64) = (z1 : Int) := by rw [← ez1]; simp
      have n2 : (p : Int) * (s : Int) = (z2 : Int) := by rw [← ez2]; simp
      rw [ez1] at HS2
      rw [ez2] at HS3
      clear ez1 ez2
      have q0 : IntKind.i64.wrap (z1 : Int) = (z1 : Int) := by rw [IntKind.wrap_i64]; omega
      have hsn : ¬ stride W = 0 := by omega
      have q1 : IntKind.i64.wrap ((r : Int) * 64) = (r : Int) * 64 := by rw [IntKind.wrap_i64]; omega
      have q2 : IntKind.i64.wrap ((p : Int) * ((r : Int) * 64)) = (z1 : Int) := by rw [n1, IntKind.wrap_i64]; omega
      have q3 : IntKind.i64.wrap ((z1 : Int) + (t : Int)) = (z1 : Int) + (t : Int) := by rw [IntKind.wrap_i64]; omega
      have q4 : IntKind.i64.wrap ((X : Int) + ((z1 : Int) + (t : Int))) = (X : Int) + ((z1 : Int) + (t : Int)) := by rw [IntKind.wrap_i64]; omega
      go_wp2_with fail
      refine (HON.out _).mono ?_
      rintro e w2 ⟨rfl, rfl⟩
      go_wp2_with fail
      go_region_held3 (fun _ => True) (exact trivial) (first | (go_at_call 20; refine (HPL.out _ (HA.out.trans HFr.out (fun _ _ h => h)).drew).mono ?_; rintro e w2 ⟨rfl, rfl⟩))
      all_goals
        go_wp2_with fail
        go_roundg (N - (j + 1))
        case measure => omega
        case rel => refine ⟨j + 1, C + p, X + (z1 + t), Y + z2, by omega, congrArg (Value.int .i64) (by omega), congrArg (Value.int .i64) (by omega), congrArg (Value.int .i64) (by first | omega | (rw [q0, q3, q4]; omega) | (rw [q3, q4]; omega)), congrArg (Value.int .i64) (by omega), ⟨HS1.out, HS2.out, HS3.out⟩, (by first | exact HFr.out.drew | exact HFr.out)⟩
    · have d1 : decide (j < N) = false := decide_eq_false h1
      have hj : j = N := by omega
      have hB : Hid (C = cnt W H P ∧ X = sumXs W H P ∧ Y = sumYs W H P) := by
        obtain ⟨e1, e2, e3⟩ := HB.out
        rw [hj] at e1 e2 e3
        exact ⟨e1.trans HC1.out, e2.trans HC2.out, e3.trans HC3.out⟩
      rw [← hB.out.1, ← hB.out.2.1] at HSX
      rw [← hB.out.1, ← hB.out.2.2] at HSY
      clear hj
      go_wp2_with fail
      refine (HSX.out _).mono ?_
      rintro e w3 ⟨x, rfl, hx, hf3⟩
      have HX : Hid (ShP (X : Int) (C : Int) x ∧ Fr (fun _ => False) w w3) := ⟨hx, (HA.out.trans HFr.out (fun _ _ h => h)).trans hf3 (fun _ _ h => h)⟩
      clear hx hf3
      go_wp2_with fail
      refine (HSY.out _).mono ?_
      rintro e w4 ⟨y, rfl, hy, hf4⟩
      have HY : Hid (ShP (Y : Int) (C : Int) y ∧ Fr (fun _ => False) w w4) := ⟨hy, HX.out.2.trans hf4 (fun _ _ h => h)⟩
      clear hy hf4
      go_wp2_with fail
      all_goals (go_ret3; exact ⟨_, _, rfl, by rw [← hB.out.1, ← hB.out.2.1]; exact HX.out.1, by rw [← hB.out.1, ← hB.out.2.2]; exact HY.out.1, HY.out.2⟩)
end Go.Proofs.YtnfmcdhllplgmaaDoor
