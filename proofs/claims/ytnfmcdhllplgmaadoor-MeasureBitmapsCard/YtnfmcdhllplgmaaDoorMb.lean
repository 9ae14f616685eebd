/- Aspect, Density, Center, Unlike of bitmaps, of both. -/
import Derived.Test.YtnfmcdhllplgmaaDoorCs
import Derived.Test.YtnfmcdhllplgmaaDoorSh
import Derived.Test.YtnfmcdhllplgmaaDoorMay
import Derived.Test.YtnfmcdhllplgmaaDoorSm
import Derived.Test.YtnfmcdhllplgmaaDoorCp
import Derived.Deep.RegionHeld3
import Derived.BigQuiet
namespace Go.Proofs.YtnfmcdhllplgmaaDoor
open Go.RowKit Ieee

theorem cells3_of {w w' : World} {x y v : Value} (hf : Fr (fun _ => False) (w.alloc (.cells #[x, y, v] 25)) w') : w'.cell? ⟨w.heap.size, 0, none⟩ = some x ∧ w'.cell? ⟨w.heap.size, 1, none⟩ = some y ∧ w'.cell? ⟨w.heap.size, 2, none⟩ = some v := by
  obtain ⟨a, b, c, _⟩ := cell_of_three (blkOld hf (heap_alloc_new w (.cells #[x, y, v] 25)))
  exact ⟨a, b, c⟩
theorem exB_nat {n : Nat} (h : n ≤ 9007199254740992) : exB (n : Int) = true := by
  unfold exB; rw [decide_eq_true (by omega), decide_eq_true (by omega)]; rfl

theorem share_nat (n d : Nat) (hn : n ≤ 9007199254740992) (hd : d ≤ 9007199254740992) (w : World) :
    Calls Tryd.prog 18 #[.int .i64 (n : Int), .int .i64 (d : Int)] w fun e w' => ∃ x, e = .returned (.tuple #[.float .f64 x, .int .i64 0]) ∧ ShP (n : Int) (d : Int) x ∧ Fr (fun _ => False) w w' :=
  share_ok (n : Int) (d : Int) (exB_nat hn) (exB_nat hd) w

/-- What is refused. -/
def badM : Value := .tuple #[.float .f64 0, .int .i64 101]

set_option maxRecDepth 100000 in
set_option maxHeartbeats 2000000 in
theorem aspect_ok (W H : Nat) (v : Value) (l : List Nat) (w : World) (hv : Seen w v l) (hlt : ∀ j : Nat, l[j]?.getD 0 < 18446744073709551616) (hok : validB W H l = true) (h1 : W ≤ 1048576) (h2 : H ≤ 1048576) :
    Calls Tryd.prog 5 #[.agg #[.int .i64 W, .int .i64 H, v]] w fun e w' => ∃ x, e = .returned (.tuple #[.float .f64 x, .int .i64 0]) ∧ ShP W H x ∧ Fr (fun _ => False) w w' := by
  have HCK : Hid (∀ w', Fr (fun _ => False) w w' → Calls Tryd.prog 17 #[.agg #[.int .i64 W, .int .i64 H, v]] w' fun e w'' => e = .returned (.bool true) ∧ Fr (fun _ => False) w' w'') := fun w' f => by
    have := check_any W H v l w' (by omega) (by omega) (hv.kept f) hlt
    rw [hok] at this; exact this
  have HSH : Hid (∀ w', Calls Tryd.prog 18 #[.int .i64 W, .int .i64 H] w' fun e w'' => ∃ x, e = .returned (.tuple #[.float .f64 x, .int .i64 0]) ∧ ShP W H x ∧ Fr (fun _ => False) w' w'') := fun w' => share_ok W H (exB_nat (by omega)) (exB_nat (by omega)) w'
  have HA : Hid (Fr (fun _ => False) w (w.alloc (.cells #[.int .i64 W, .int .i64 H, v] 25))) := (Fr.refl _ _).alloc _
  have HBX : Hid (∀ w', Fr (fun _ => False) (w.alloc (.cells #[.int .i64 W, .int .i64 H, v] 25)) w' → w'.cell? ⟨w.heap.size, 0, none⟩ = some (.int .i64 W) ∧ w'.cell? ⟨w.heap.size, 1, none⟩ = some (.int .i64 H) ∧ w'.cell? ⟨w.heap.size, 2, none⟩ = some v) := fun w' hf => cells3_of hf
  clear hv hlt hok
  obtain ⟨c0, c1, c2⟩ := HBX.out _ (Fr.refl _ _)
  go_enter Tryd.func5, Tryd.ntmps5
  go_wp2_with fail
  generalize w.alloc (.cells #[.int .i64 W, .int .i64 H, v] 25) = w0 at *
  refine (HCK.out _ HA.out).mono ?_
  rintro e w1 ⟨rfl, hf1⟩
  have HF1 : Hid (Fr (fun _ => False) w0 w1) := hf1
  clear hf1 c0 c1 c2
  obtain ⟨c0, c1, c2⟩ := HBX.out _ HF1.out
  go_wp2_with fail
  refine (HSH.out _).mono ?_
  rintro e w2 ⟨x, rfl, hx, hf2⟩
  have HX : Hid (ShP W H x ∧ Fr (fun _ => False) w w2) := ⟨hx, (HA.out.trans HF1.out (fun _ _ h => h)).trans hf2 (fun _ _ h => h)⟩
  clear hx hf2
  go_wp2_with fail
  all_goals (go_ret2; exact ⟨_, rfl, HX.out⟩)

set_option maxRecDepth 100000 in
set_option maxHeartbeats 2000000 in
theorem aspect_bad (x y : Int) (v : Value) (l : List Nat) (w : World) (hv : Seen w v l) (hlt : ∀ j : Nat, l[j]?.getD 0 < 18446744073709551616) (hok : validB x y l = false) (h1 : -9223372036854775808 ≤ x ∧ x ≤ 9223372036854775807) (h2 : -9223372036854775808 ≤ y ∧ y ≤ 9223372036854775807) :
    Calls Tryd.prog 5 #[.agg #[.int .i64 x, .int .i64 y, v]] w fun e w' => e = .returned badM ∧ Fr (fun _ => False) w w' := by
  have HCK : Hid (∀ w', Fr (fun _ => False) w w' → Calls Tryd.prog 17 #[.agg #[.int .i64 x, .int .i64 y, v]] w' fun e w'' => e = .returned (.bool false) ∧ Fr (fun _ => False) w' w'') := fun w' f => by
    have := check_any x y v l w' h1 h2 (hv.kept f) hlt
    rw [hok] at this; exact this
  have HA : Hid (Fr (fun _ => False) w (w.alloc (.cells #[.int .i64 x, .int .i64 y, v] 25))) := (Fr.refl _ _).alloc _
  clear hv hlt hok
  obtain ⟨c0, c1, c2⟩ := cells3_of (Fr.refl (fun _ => False) (w.alloc (.cells #[.int .i64 x, .int .i64 y, v] 25)))
  go_enter Tryd.func5, Tryd.ntmps5
  go_wp2_with fail
  generalize w.alloc (.cells #[.int .i64 x, .int .i64 y, v] 25) = w0 at *
  refine (HCK.out _ HA.out).mono ?_
  rintro e w1 ⟨rfl, hf1⟩
  have HF1 : Hid (Fr (fun _ => False) w w1) := HA.out.trans hf1 (fun _ _ h => h)
  clear hf1 c0 c1 c2
  go_wp2_with fail
  all_goals (go_ret2; exact ⟨rfl, HF1.out⟩)

/-- What stands of a bitmap that may be. -/
structure Vb (w : World) (v : Value) (W H : Nat) (P : Nat → Nat → Bool) : Prop where
  seen : Seen w v (render W H P)
  w1 : 1 ≤ W
  h1 : 1 ≤ H
  area : W * H ≤ 1048576
  ok : validB W H (render W H P) = true
theorem Vb.kept {w w' : World} {v : Value} {W H : Nat} {P : Nat → Nat → Bool} (h : Vb w v W H P) (f : Fr (fun _ => False) w w') : Vb w' v W H P := ⟨h.seen.kept f, h.w1, h.h1, h.area, h.ok⟩
theorem Vb.le {w : World} {v : Value} {W H : Nat} {P : Nat → Nat → Bool} (h : Vb w v W H P) : W ≤ 1048576 ∧ H ≤ 1048576 ∧ H * stride W ≤ 1048576 := size_facts h.w1 h.h1 h.area
theorem Vb.lt {w : World} {v : Value} {W H : Nat} {P : Nat → Nat → Bool} (_h : Vb w v W H P) : ∀ j : Nat, (render W H P)[j]?.getD 0 < 18446744073709551616 := fun j => by
  cases e : (render W H P)[j]? with
  | none => exact Nat.zero_lt_succ _
  | some x => exact render_lt x (List.mem_of_getElem? e)
theorem Vb.check {w : World} {v : Value} {W H : Nat} {P : Nat → Nat → Bool} (h : Vb w v W H P) : Calls Tryd.prog 17 #[.agg #[.int .i64 W, .int .i64 H, v]] w fun e w' => e = .returned (.bool true) ∧ Fr (fun _ => False) w w' := by
  obtain ⟨a, b, _⟩ := h.le
  have := check_any W H v _ w (by omega) (by omega) h.seen h.lt
  rw [h.ok] at this; exact this
theorem cnt_area {w : World} {v : Value} {W H : Nat} {P : Nat → Nat → Bool} (h : Vb w v W H P) : cnt W H P ≤ 1048576 := by
  have := cnt_le W H P
  have h2 := h.area
  rw [Nat.mul_comm] at h2; omega

set_option maxRecDepth 100000 in
set_option maxHeartbeats 2000000 in
theorem density_ok (W H : Nat) (v : Value) (P : Nat → Nat → Bool) (w : World) (hv : Vb w v W H P) :
    Calls Tryd.prog 6 #[.agg #[.int .i64 W, .int .i64 H, v]] w fun e w' => ∃ x, e = .returned (.tuple #[.float .f64 x, .int .i64 0]) ∧ ShP (cnt W H P : Nat) ((W * H : Nat) : Int) x ∧ Fr (fun _ => False) w w' := by
  have HV : Hid (∀ w', Fr (fun _ => False) w w' → Vb w' v W H P) := fun w' f => hv.kept f
  have HSH0 : ∀ K M : Nat, K ≤ 1048576 → M ≤ 1048576 → ∀ w', Calls Tryd.prog 18 #[.int .i64 (K : Int), .int .i64 (M : Int)] w' fun e w'' => ∃ x, e = .returned (.tuple #[.float .f64 x, .int .i64 0]) ∧ ShP (K : Int) (M : Int) x ∧ Fr (fun _ => False) w' w'' := fun K M h1 h2 w' => share_nat K M (by omega) (by omega) w'
  have HSH := HSH0 (cnt W H P) (W * H) (cnt_area hv) hv.area
  have HSH : Hid _ := HSH
  clear HSH0
  obtain ⟨a1, a2, a3⟩ := hv.le
  have a4 := hv.area
  obtain ⟨ao, cap, rfl, hll, hcc⟩ := hv.seen
  have HA : Hid (Fr (fun _ => False) w (w.alloc (.cells #[.int .i64 W, .int .i64 H, .slice ao (render W H P).length cap] 25))) := (Fr.refl _ _).alloc _
  have HBX : Hid (∀ w', Fr (fun _ => False) (w.alloc (.cells #[.int .i64 W, .int .i64 H, .slice ao (render W H P).length cap] 25)) w' → w'.cell? ⟨w.heap.size, 0, none⟩ = some (.int .i64 W) ∧ w'.cell? ⟨w.heap.size, 1, none⟩ = some (.int .i64 H) ∧ w'.cell? ⟨w.heap.size, 2, none⟩ = some (.slice ao (render W H P).length cap)) := fun w' hf => cells3_of hf
  have HWD : Hid (∀ w', Fr (fun _ => False) w w' → ∀ j, j < H * stride W → ∃ b off, ao = some ⟨b, off, none⟩ ∧ w'.cell? ⟨b, off + j, none⟩ = some (.int .u64 (wd W P (j / stride W) (j % stride W) : Nat))) := fun w' f j hj => by
    obtain ⟨ao', cap', e, _, hc⟩ := (HV.out w' f).seen
    cases e
    obtain ⟨b, off, e2, hcell⟩ := hc (by intro e; have := congrArg List.length e; rw [length_render] at this; simp at this; omega)
    refine ⟨b, off, e2, ?_⟩
    rw [hcell j (by rw [length_render]; exact hj), render_get' P hj]; rfl
  have HCT : Hid (sumTo (fun i => pop 64 (wd W P (i / stride W) (i % stride W))) (H * stride W) = cnt W H P) := cnt_words W H P
  have HSB : Hid (∀ j, j ≤ H * stride W → sumTo (fun i => pop 64 (wd W P (i / stride W) (i % stride W))) j ≤ 1048576) := fun j hj => Nat.le_trans (sumTo_mono _ hj) (by rw [HCT.out]; exact cnt_area hv)
  clear hv hcc hll
  rw [length_render] at HA HBX HV ⊢
  obtain ⟨c0, c1, c2⟩ := HBX.out _ (Fr.refl _ _)
  have hmul : ((W : Int) * (H : Int)) = ((W * H : Nat) : Int) := by rw [Int.natCast_mul]
  generalize hN : H * stride W = N at *
  generalize hM : W * H = M at *
  clear hN hM
  go_enter Tryd.func6, Tryd.ntmps6
  go_wp2_with fail
  generalize w.alloc (.cells #[.int .i64 W, .int .i64 H, .slice ao N cap] 25) = w0 at *
  refine (HV.out _ HA.out).check.mono ?_
  rintro e w1 ⟨rfl, hf1⟩
  have HF1 : Hid (Fr (fun _ => False) w0 w1) := hf1
  clear hf1 c0 c1 c2
  obtain ⟨c0, c1, c2⟩ := HBX.out _ HF1.out
  go_wp2_with fail
  go_loopg [4, 6, 13] N (fun q bl _ i wr => ∃ (j B : Nat), j + q = N ∧ i = .int .i64 (j : Int) ∧ bl = .int .i64 (B : Int) ∧ Hid (B = sumTo (fun i => pop 64 (wd W P (i / stride W) (i % stride W))) j) ∧ wr = w1)
  case atStart => exact ⟨0, 0, by omega, rfl, rfl, rfl, rfl⟩
  case round =>
    obtain ⟨j, B, hjq, rfl, rfl, HB, rfl⟩ := hrel
    have hb0 : B ≤ 1048576 := by rw [HB.out]; exact HSB.out j (by omega)
    by_cases h1 : j < N
    · have d1 : decide (j < N) = true := decide_eq_true h1
      obtain ⟨b, off, rfl, k0⟩ := HWD.out _ (HA.out.trans HF1.out (fun _ _ h => h)) j h1
      have HX : Hid (wd W P (j / stride W) (j % stride W) < 18446744073709551616) := wd_lt _ _ _ _
      have HS2 : Hid (B + pop 64 (wd W P (j / stride W) (j % stride W)) = sumTo (fun i => pop 64 (wd W P (i / stride W) (i % stride W))) (j + 1)) := by rw [HB.out]; rfl
      have hp := pop_le 64 (wd W P (j / stride W) (j % stride W))
      generalize wd W P (j / stride W) (j % stride W) = X at *
      have HON : Hid (∀ w', Calls Tryd.prog 19 #[.int .u64 X] w' fun e w'' => e = .returned (.int .i64 (pop 64 X : Nat)) ∧ w'' = w') := fun w' => ones_any X w' HX.out
      generalize pop 64 X = p at *
      go_wp2_with fail
      refine (HON.out _).mono ?_
      rintro e w2 ⟨rfl, rfl⟩
      go_wp2_with fail
      go_roundg (N - (j + 1))
      case measure => omega
      case rel => exact ⟨j + 1, B + p, by omega, congrArg (Value.int .i64) (by omega), congrArg (Value.int .i64) (by omega), HS2.out, rfl⟩
    · have d1 : decide (j < N) = false := decide_eq_false h1
      have hB : Hid (B = cnt W H P) := by rw [HB.out, show j = N from by omega]; exact HCT.out
      rw [← hB.out] at HSH
      go_wp2_with fail
      refine (HSH.out _).mono ?_
      rintro e w2 ⟨x, rfl, hx, hf2⟩
      have HX : Hid (ShP (B : Nat) (M : Int) x ∧ Fr (fun _ => False) w w2) := ⟨hx, (HA.out.trans HF1.out (fun _ _ h => h)).trans hf2 (fun _ _ h => h)⟩
      clear hx hf2
      go_wp2_with fail
      all_goals (go_ret2; exact ⟨_, rfl, by rw [← hB.out]; exact HX.out.1, HX.out.2⟩)

set_option maxRecDepth 100000 in
theorem inf_any (w : World) :
    Calls Tryd.prog 29 #[.int .i64 1] w fun e w' => e = .returned (.float .f64 9218868437227405312) ∧ w' = w := by
  have h2 := frombits_run
  go_enter Tryd.func29, Tryd.ntmps29
  go_wp2_with (simp only [h2])
  all_goals (go_ret; exact ⟨rfl, rfl⟩)

theorem unl_le (W H : Nat) (P Q : Nat → Nat → Bool) : unl W H P Q ≤ H * W := by
  unfold unl
  have : sumTo (fun y => sumTo (fun x => (P x y != Q x y).toNat) W) H ≤ sumTo (fun _ => W) H := sumTo_le (fun y _ => by
    have h2 : sumTo (fun x => (P x y != Q x y).toNat) W ≤ sumTo (fun _ => 1) W := sumTo_le (fun x _ => by cases (P x y != Q x y) <;> decide)
    rw [sumTo_const, Nat.mul_one] at h2; exact h2)
  rw [sumTo_const] at this; exact this

set_option maxRecDepth 100000 in
set_option maxHeartbeats 2000000 in
theorem unlike_far (W H W' H' : Nat) (v v' : Value) (P Q : Nat → Nat → Bool) (w : World) (hv : Vb w v W H P) (hv' : Vb w v' W' H' Q) (hne : W ≠ W' ∨ H ≠ H') :
    Calls Tryd.prog 14 #[.agg #[.int .i64 W, .int .i64 H, v], .agg #[.int .i64 W', .int .i64 H', v']] w fun e w' => e = .returned (.tuple #[.float .f64 9218868437227405312, .int .i64 0]) ∧ Fr (fun _ => False) w w' := by
  have HV : Hid (∀ w', Fr (fun _ => False) w w' → Vb w' v W H P) := fun w' f => hv.kept f
  have HV' : Hid (∀ w', Fr (fun _ => False) w w' → Vb w' v' W' H' Q) := fun w' f => hv'.kept f
  clear hv hv'
  have HA : Hid (Fr (fun _ => False) w ((w.alloc (.cells #[.int .i64 W, .int .i64 H, v] 25)).alloc (.cells #[.int .i64 W', .int .i64 H', v'] 25))) := ((Fr.refl _ _).alloc _).alloc _
  have HBX : Hid (∀ w', Fr (fun _ => False) ((w.alloc (.cells #[.int .i64 W, .int .i64 H, v] 25)).alloc (.cells #[.int .i64 W', .int .i64 H', v'] 25)) w' → (w'.cell? ⟨w.heap.size, 0, none⟩ = some (.int .i64 W) ∧ w'.cell? ⟨w.heap.size, 1, none⟩ = some (.int .i64 H) ∧ w'.cell? ⟨w.heap.size, 2, none⟩ = some v) ∧ (w'.cell? ⟨w.heap.size + 1, 0, none⟩ = some (.int .i64 W') ∧ w'.cell? ⟨w.heap.size + 1, 1, none⟩ = some (.int .i64 H') ∧ w'.cell? ⟨w.heap.size + 1, 2, none⟩ = some v')) := fun w' hf => by
    obtain ⟨a, b, c, _⟩ := cell_of_three (blkOld hf (blkUp (heap_alloc_new w (.cells #[.int .i64 W, .int .i64 H, v] 25)) _))
    obtain ⟨a', b', c', _⟩ := cell_of_three (blkOld hf (by have := heap_alloc_new (w.alloc (.cells #[.int .i64 W, .int .i64 H, v] 25)) (.cells #[.int .i64 W', .int .i64 H', v'] 25); rwa [World.size_alloc] at this))
    exact ⟨⟨a, b, c⟩, a', b', c'⟩
  obtain ⟨⟨c0, c1, c2⟩, e0, e1, e2⟩ := HBX.out _ (Fr.refl _ _)
  have HNE : Hid (W ≠ W' ∨ H ≠ H') := hne
  clear hne
  go_enter Tryd.func14, Tryd.ntmps14
  go_wp2_with fail
  generalize (w.alloc (.cells #[.int .i64 W, .int .i64 H, v] 25)).alloc (.cells #[.int .i64 W', .int .i64 H', v'] 25) = w0 at *
  refine (HV.out _ HA.out).check.mono ?_
  rintro e w1 ⟨rfl, hf1⟩
  have HF1 : Hid (Fr (fun _ => False) w0 w1) := hf1
  clear hf1 c0 c1 c2 e0 e1 e2
  obtain ⟨⟨c0, c1, c2⟩, e0, e1, e2⟩ := HBX.out _ HF1.out
  go_wp2_with fail
  refine (HV'.out _ (HA.out.trans HF1.out (fun _ _ h => h))).check.mono ?_
  rintro e w2 ⟨rfl, hf2⟩
  have HF2 : Hid (Fr (fun _ => False) w0 w2) := HF1.out.trans hf2 (fun _ _ h => h)
  clear hf2 c0 c1 c2 e0 e1 e2
  obtain ⟨⟨c0, c1, c2⟩, e0, e1, e2⟩ := HBX.out _ HF2.out
  have HFE : Hid (Fr (fun _ => False) w w2) := HA.out.trans HF2.out (fun _ _ h => h)
  by_cases hw : W = W'
  · have g0 : ((W : Int) != (W' : Int)) = false := by rw [hw]; simp
    have g1 : ((H : Int) != (H' : Int)) = true := by
      rcases HNE.out with h | h
      · exact absurd hw h
      · simp; omega
    clear hw
    go_wp2_with fail
    refine (inf_any _).mono ?_
    rintro e w3 ⟨rfl, rfl⟩
    go_wp2_with fail
    all_goals (go_ret2; exact ⟨rfl, HFE.out⟩)
  · have g0 : ((W : Int) != (W' : Int)) = true := by simp; omega
    clear hw
    go_wp2_with fail
    refine (inf_any _).mono ?_
    rintro e w3 ⟨rfl, rfl⟩
    go_wp2_with fail
    all_goals (go_ret2; exact ⟨rfl, HFE.out⟩)
end Go.Proofs.YtnfmcdhllplgmaaDoor
