/- Unlike of bitmaps of one size; Center. -/
import Derived.Test.YtodgdbbhllejkaaKMb
namespace Go.Proofs.Ytodgdbbhllejkaa
open Go.RowKit Ieee

theorem Vb.words {w : World} {ao : Option Addr} {n cap W H : Nat} {P : Nat → Nat → Bool} (h : Vb w (.slice ao n cap) W H P) : n = H * stride W ∧ ∀ j, j < H * stride W → ∃ b off, ao = some ⟨b, off, none⟩ ∧ w.cell? ⟨b, off + j, none⟩ = some (.int .u64 (wd W P (j / stride W) (j % stride W) : Nat)) := by
  obtain ⟨ao', cap', e, _, hc⟩ := h.seen
  rw [length_render] at e
  cases e
  refine ⟨rfl, fun j hj => ?_⟩
  obtain ⟨b, off, e2, hcell⟩ := hc (by intro e; have := congrArg List.length e; rw [length_render] at this; simp at this; omega)
  refine ⟨b, off, e2, ?_⟩
  rw [hcell j (by rw [length_render]; exact hj), render_get' P hj]; rfl
theorem Vb.slice {w : World} {v : Value} {W H : Nat} {P : Nat → Nat → Bool} (h : Vb w v W H P) : ∃ ao cap, v = .slice ao (H * stride W) cap := by
  obtain ⟨ao, cap, e, _, _⟩ := h.seen
  rw [length_render] at e
  exact ⟨ao, cap, e⟩

set_option maxRecDepth 100000 in
set_option maxHeartbeats 2000000 in
theorem unlike_ok (W H : Nat) (v v' : Value) (P Q : Nat → Nat → Bool) (w : World) (hv : Vb w v W H P) (hv' : Vb w v' W H Q) :
    Calls Try.prog 25 #[.agg #[.int .i64 W, .int .i64 H, v], .agg #[.int .i64 W, .int .i64 H, v']] w fun e w' => ∃ x, e = .returned (.tuple #[.float .f64 x, .int .i64 0]) ∧ ShP ((unl W H P Q : Nat) : Int) ((W * H : Nat) : Int) x ∧ Fr (fun _ => False) w w' := by
  have HSH0 : ∀ K M : Nat, K ≤ 1048576 → M ≤ 1048576 → ∀ w', Calls Try.prog 42 #[.int .i64 (K : Int), .int .i64 (M : Int)] w' fun e w'' => ∃ x, e = .returned (.tuple #[.float .f64 x, .int .i64 0]) ∧ ShP (K : Int) (M : Int) x ∧ Fr (fun _ => False) w' w'' := fun K M h1 h2 w' => share_nat K M (by omega) (by omega) w'
  have hul : unl W H P Q ≤ 1048576 := by have := unl_le W H P Q; have h2 := hv.area; rw [Nat.mul_comm] at h2; omega
  have HSH := HSH0 (unl W H P Q) (W * H) hul hv.area
  have HSH : Hid _ := HSH
  clear HSH0
  obtain ⟨ao, cap, rfl⟩ := hv.slice
  obtain ⟨ao', cap', rfl⟩ := hv'.slice
  have HV : Hid (∀ w', Fr (fun _ => False) w w' → Vb w' (.slice ao (H * stride W) cap) W H P) := fun w' f => hv.kept f
  have HV' : Hid (∀ w', Fr (fun _ => False) w w' → Vb w' (.slice ao' (H * stride W) cap') W H Q) := fun w' f => hv'.kept f
  have HWD : Hid (∀ w', Fr (fun _ => False) w w' → ∀ j, j < H * stride W → ∃ b off b' off', ao = some ⟨b, off, none⟩ ∧ ao' = some ⟨b', off', none⟩ ∧ w'.cell? ⟨b, off + j, none⟩ = some (.int .u64 (wd W P (j / stride W) (j % stride W) : Nat)) ∧ w'.cell? ⟨b', off' + j, none⟩ = some (.int .u64 (wd W Q (j / stride W) (j % stride W) : Nat))) := fun w' f j hj => by
    obtain ⟨b, off, e1, k1⟩ := (hv.kept f).words.2 j hj
    obtain ⟨b', off', e2, k2⟩ := (hv'.kept f).words.2 j hj
    exact ⟨b, off, b', off', e1, e2, k1, k2⟩
  obtain ⟨a1, a2, a3⟩ := hv.le
  have a4 := hv.area
  have HCT : Hid (sumTo (fun i => pop 64 (wd W P (i / stride W) (i % stride W) ^^^ wd W Q (i / stride W) (i % stride W))) (H * stride W) = unl W H P Q) := unl_words W H P Q
  have HSB : Hid (∀ j, j ≤ H * stride W → sumTo (fun i => pop 64 (wd W P (i / stride W) (i % stride W) ^^^ wd W Q (i / stride W) (i % stride W))) j ≤ 1048576) := fun j hj => Nat.le_trans (sumTo_mono _ hj) (by rw [HCT.out]; exact hul)
  clear hv hv' hul
  have hmul : ((W : Int) * (H : Int)) = ((W * H : Nat) : Int) := by rw [Int.natCast_mul]
  generalize hN : H * stride W = N at *
  generalize hM : W * H = M at *
  clear hN hM
  have HA : Hid (Fr (fun _ => False) w ((w.alloc (.cells #[.int .i64 W, .int .i64 H, .slice ao N cap] 48)).alloc (.cells #[.int .i64 W, .int .i64 H, .slice ao' N cap'] 48))) := ((Fr.refl _ _).alloc _).alloc _
  have HBX : Hid (∀ w', Fr (fun _ => False) ((w.alloc (.cells #[.int .i64 W, .int .i64 H, .slice ao N cap] 48)).alloc (.cells #[.int .i64 W, .int .i64 H, .slice ao' N cap'] 48)) w' → (w'.cell? ⟨w.heap.size, 0, none⟩ = some (.int .i64 W) ∧ w'.cell? ⟨w.heap.size, 1, none⟩ = some (.int .i64 H) ∧ w'.cell? ⟨w.heap.size, 2, none⟩ = some (.slice ao N cap)) ∧ (w'.cell? ⟨w.heap.size + 1, 0, none⟩ = some (.int .i64 W) ∧ w'.cell? ⟨w.heap.size + 1, 1, none⟩ = some (.int .i64 H) ∧ w'.cell? ⟨w.heap.size + 1, 2, none⟩ = some (.slice ao' N cap'))) := fun w' hf => by
    obtain ⟨a, b, c, _⟩ := cell_of_three (blkOld hf (blkUp (heap_alloc_new w (.cells #[.int .i64 W, .int .i64 H, .slice ao N cap] 48)) _))
    obtain ⟨a', b', c', _⟩ := cell_of_three (blkOld hf (by have := heap_alloc_new (w.alloc (.cells #[.int .i64 W, .int .i64 H, .slice ao N cap] 48)) (.cells #[.int .i64 W, .int .i64 H, .slice ao' N cap'] 48); rwa [World.size_alloc] at this))
    exact ⟨⟨a, b, c⟩, a', b', c'⟩
  obtain ⟨⟨c0, c1, c2⟩, e0, e1, e2⟩ := HBX.out _ (Fr.refl _ _)
  go_enter Try.func25, Try.ntmps25
  go_wp2_with fail
  generalize (w.alloc (.cells #[.int .i64 W, .int .i64 H, .slice ao N cap] 48)).alloc (.cells #[.int .i64 W, .int .i64 H, .slice ao' N cap'] 48) = w0 at *
  refine (HV.out _ HA.out).check.mono ?_
  rintro e w1 ⟨rfl, hf1⟩
  have HF1 : Hid (Fr (fun _ => False) w0 w1) := hf1
  clear hf1 c0 c1 c2 e0 e1 e2
  obtain ⟨⟨c0, c1, c2⟩, e0, e1, e2⟩ := HBX.out _ HF1.out
  go_wp2_with fail
  refine (HV'.out _ (HA.out.trans HF1.out (fun _ _ h => h))).check.mono ?_
  rintro e w2 ⟨rfl, hf2⟩
  have HF2 : Hid (Fr (fun _ => False) w0 w2) := HF1.out.trans hf2 (fun _ _ h => h)
  clear hf2 c0 c1 c2 e0 e1 e2
  obtain ⟨⟨c0, c1, c2⟩, e0, e1, e2⟩ := HBX.out _ HF2.out
  go_wp2_with fail
  go_loopg [6, 7, 8, 33] N (fun q bl _ _ i wr => ∃ (j B : Nat), j + q = N ∧ i = .int .i64 (j : Int) ∧ bl = .int .i64 (B : Int) ∧ Hid (B = sumTo (fun i => pop 64 (wd W P (i / stride W) (i % stride W) ^^^ wd W Q (i / stride W) (i % stride W))) j) ∧ Fr (fun _ => False) w0 wr)
  case atStart => exact ⟨0, 0, by omega, rfl, rfl, rfl, HF2.out⟩
  case round =>
    obtain ⟨j, B, hjq, rfl, rfl, HB, hfr⟩ := hrel
    have HFr : Hid (Fr (fun _ => False) w0 wr) := hfr
    clear c0 c1 c2 e0 e1 e2
    obtain ⟨⟨c0, c1, c2⟩, e0, e1, e2⟩ := HBX.out _ hfr
    clear hfr
    have hb0 : B ≤ 1048576 := by rw [HB.out]; exact HSB.out j (by omega)
    by_cases h1 : j < N
    · have d1 : decide (j < N) = true := decide_eq_true h1
      obtain ⟨b, off, b', off', rfl, rfl, k0, k1⟩ := HWD.out _ (HA.out.trans HFr.out (fun _ _ h => h)) j h1
      have HX : Hid (wd W P (j / stride W) (j % stride W) ^^^ wd W Q (j / stride W) (j % stride W) < 18446744073709551616) := Nat.xor_lt_two_pow (n := 64) (wd_lt _ _ _ _) (wd_lt _ _ _ _)
      have hx1 : bits .xor .u64 (wd W P (j / stride W) (j % stride W) : Nat) (wd W Q (j / stride W) (j % stride W) : Nat) = ((wd W P (j / stride W) (j % stride W) ^^^ wd W Q (j / stride W) (j % stride W) : Nat) : Int) := u64_xor_nat _ _ (wd_lt _ _ _ _) (wd_lt _ _ _ _)
      have HS2 : Hid (B + pop 64 (wd W P (j / stride W) (j % stride W) ^^^ wd W Q (j / stride W) (j % stride W)) = sumTo (fun i => pop 64 (wd W P (i / stride W) (i % stride W) ^^^ wd W Q (i / stride W) (i % stride W))) (j + 1)) := by rw [HB.out]; rfl
      have hp := pop_le 64 (wd W P (j / stride W) (j % stride W) ^^^ wd W Q (j / stride W) (j % stride W))
      generalize wd W P (j / stride W) (j % stride W) ^^^ wd W Q (j / stride W) (j % stride W) = X at *
      generalize wd W P (j / stride W) (j % stride W) = X1 at *
      generalize wd W Q (j / stride W) (j % stride W) = X2 at *
      have HON : Hid (∀ w', Calls Try.prog 41 #[.int .u64 X] w' fun e w'' => e = .returned (.int .i64 (pop 64 X : Nat)) ∧ w'' = w') := fun w' => ones_any X w' HX.out
      generalize pop 64 X = p at *
      have HKK : Hid (∀ w', Fr (fun _ => False) w0 w' → w'.cell? ⟨w.heap.size + 1, 2, none⟩ = some (.slice (some ⟨b', off', none⟩) N cap')) := fun w' f => (HBX.out w' f).2.2.2
      go_wp2_with fail
      refine (HON.out _).mono ?_
      rintro e w2 ⟨rfl, rfl⟩
      go_wp2_with fail
      go_roundg (N - (j + 1))
      case measure => omega
      case rel => exact ⟨j + 1, B + p, by omega, congrArg (Value.int .i64) (by omega), congrArg (Value.int .i64) (by omega), HS2.out, HFr.out⟩
    · have d1 : decide (j < N) = false := decide_eq_false h1
      have hB : Hid (B = unl W H P Q) := by rw [HB.out, show j = N from by omega]; exact HCT.out
      rw [← hB.out] at HSH
      go_wp2_with fail
      refine (HSH.out _).mono ?_
      rintro e w3 ⟨x, rfl, hx, hf2⟩
      have HX : Hid (ShP (B : Nat) (M : Int) x ∧ Fr (fun _ => False) w w3) := ⟨hx, (HA.out.trans HFr.out (fun _ _ h => h)).trans hf2 (fun _ _ h => h)⟩
      clear hx hf2
      go_wp2_with fail
      all_goals (go_ret2; exact ⟨_, rfl, by rw [← hB.out]; exact HX.out.1, HX.out.2⟩)

end Go.Proofs.Ytodgdbbhllejkaa
