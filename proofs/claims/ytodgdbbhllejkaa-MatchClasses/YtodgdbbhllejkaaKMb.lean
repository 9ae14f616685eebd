/- Aspect, Density, Center, Unlike of bitmaps, of both. -/
import Derived.Test.YtodgdbbhllejkaaKCs
import Derived.Test.YtodgdbbhllejkaaKSh
import Derived.Test.YtodgdbbhllejkaaKMay
import Derived.Test.YtodgdbbhllejkaaK3
import Derived.Deep.RegionHeld3
import Derived.BigQuiet
namespace Go.Proofs.Ytodgdbbhllejkaa
open Go.RowKit Ieee

theorem cells3_of {w w' : World} {x y v : Value} (hf : Fr (fun _ => False) (w.alloc (.cells #[x, y, v] 48)) w') : w'.cell? ⟨w.heap.size, 0, none⟩ = some x ∧ w'.cell? ⟨w.heap.size, 1, none⟩ = some y ∧ w'.cell? ⟨w.heap.size, 2, none⟩ = some v := by
  obtain ⟨a, b, c, _⟩ := cell_of_three (blkOld hf (heap_alloc_new w (.cells #[x, y, v] 48)))
  exact ⟨a, b, c⟩
theorem exB_nat {n : Nat} (h : n ≤ 9007199254740992) : exB (n : Int) = true := by
  unfold exB; rw [decide_eq_true (by omega), decide_eq_true (by omega)]; rfl

theorem share_nat (n d : Nat) (hn : n ≤ 9007199254740992) (hd : d ≤ 9007199254740992) (w : World) :
    Calls Try.prog 42 #[.int .i64 (n : Int), .int .i64 (d : Int)] w fun e w' => ∃ x, e = .returned (.tuple #[.float .f64 x, .int .i64 0]) ∧ ShP (n : Int) (d : Int) x ∧ Fr (fun _ => False) w w' :=
  share_ok (n : Int) (d : Int) (exB_nat hn) (exB_nat hd) w

/-- What is refused. -/
def badM : Value := .tuple #[.float .f64 0, .int .i64 101]

/-- What stands of a bitmap that may be. -/
structure Vb (w : World) (v : Value) (W H : Nat) (P : Nat → Nat → Bool) : Prop where
  seen : Seen w v (render W H P)
  w1 : 1 ≤ W
  h1 : 1 ≤ H
  area : W * H ≤ 1048576
  ok : validB W H (render W H P) = true
theorem Vb.kept {w w' : World} {v : Value} {W H : Nat} {P : Nat → Nat → Bool} (h : Vb w v W H P) (f : Fr (fun _ => False) w w') : Vb w' v W H P := ⟨h.seen.kept f, h.w1, h.h1, h.area, h.ok⟩
theorem Vb.le {w : World} {v : Value} {W H : Nat} {P : Nat → Nat → Bool} (h : Vb w v W H P) : W ≤ 1048576 ∧ H ≤ 1048576 ∧ H * stride W ≤ 1048576 := size_facts h.w1 h.h1 h.area
theorem Vb.lt {w : World} {v : Value} {W H : Nat} {P : Nat → Nat → Bool} (_h : Vb w v W H P) : ∀ j : Nat, (render W H P)[j]?.getD 0 < 18446744073709551616 := fun j => by
  cases e : (render W H P)[j]? with
  | none => exact Nat.zero_lt_succ _
  | some x => exact render_lt x (List.mem_of_getElem? e)
theorem Vb.check {w : World} {v : Value} {W H : Nat} {P : Nat → Nat → Bool} (h : Vb w v W H P) : Calls Try.prog 39 #[.agg #[.int .i64 W, .int .i64 H, v]] w fun e w' => e = .returned (.bool true) ∧ Fr (fun _ => False) w w' := by
  obtain ⟨a, b, _⟩ := h.le
  have := check_any W H v _ w (by omega) (by omega) h.seen h.lt
  rw [h.ok] at this; exact this
theorem cnt_area {w : World} {v : Value} {W H : Nat} {P : Nat → Nat → Bool} (h : Vb w v W H P) : cnt W H P ≤ 1048576 := by
  have := cnt_le W H P
  have h2 := h.area
  rw [Nat.mul_comm] at h2; omega

set_option maxRecDepth 100000 in
theorem inf_any (w : World) :
    Calls Try.prog 40 #[.int .i64 1] w fun e w' => e = .returned (.float .f64 9218868437227405312) ∧ w' = w := by
  have h2 := frombits_run
  go_enter Try.func40, Try.ntmps40
  go_wp2_with (simp only [h2])
  all_goals (go_ret; exact ⟨rfl, rfl⟩)

theorem unl_le (W H : Nat) (P Q : Nat → Nat → Bool) : unl W H P Q ≤ H * W := by
  unfold unl
  have : sumTo (fun y => sumTo (fun x => (P x y != Q x y).toNat) W) H ≤ sumTo (fun _ => W) H := sumTo_le (fun y _ => by
    have h2 : sumTo (fun x => (P x y != Q x y).toNat) W ≤ sumTo (fun _ => 1) W := sumTo_le (fun x _ => by cases (P x y != Q x y) <;> decide)
    rw [sumTo_const, Nat.mul_one] at h2; exact h2)
  rw [sumTo_const] at this; exact this

set_option maxRecDepth 100000 in
set_option maxHeartbeats 2000000 in
theorem unlike_far (W H W' H' : Nat) (v v' : Value) (P Q : Nat → Nat → Bool) (w : World) (hv : Vb w v W H P) (hv' : Vb w v' W' H' Q) (hne : W ≠ W' ∨ H ≠ H') :
    Calls Try.prog 25 #[.agg #[.int .i64 W, .int .i64 H, v], .agg #[.int .i64 W', .int .i64 H', v']] w fun e w' => e = .returned (.tuple #[.float .f64 9218868437227405312, .int .i64 0]) ∧ Fr (fun _ => False) w w' := by
  have HV : Hid (∀ w', Fr (fun _ => False) w w' → Vb w' v W H P) := fun w' f => hv.kept f
  have HV' : Hid (∀ w', Fr (fun _ => False) w w' → Vb w' v' W' H' Q) := fun w' f => hv'.kept f
  clear hv hv'
  have HA : Hid (Fr (fun _ => False) w ((w.alloc (.cells #[.int .i64 W, .int .i64 H, v] 48)).alloc (.cells #[.int .i64 W', .int .i64 H', v'] 48))) := ((Fr.refl _ _).alloc _).alloc _
  have HBX : Hid (∀ w', Fr (fun _ => False) ((w.alloc (.cells #[.int .i64 W, .int .i64 H, v] 48)).alloc (.cells #[.int .i64 W', .int .i64 H', v'] 48)) w' → (w'.cell? ⟨w.heap.size, 0, none⟩ = some (.int .i64 W) ∧ w'.cell? ⟨w.heap.size, 1, none⟩ = some (.int .i64 H) ∧ w'.cell? ⟨w.heap.size, 2, none⟩ = some v) ∧ (w'.cell? ⟨w.heap.size + 1, 0, none⟩ = some (.int .i64 W') ∧ w'.cell? ⟨w.heap.size + 1, 1, none⟩ = some (.int .i64 H') ∧ w'.cell? ⟨w.heap.size + 1, 2, none⟩ = some v')) := fun w' hf => by
    obtain ⟨a, b, c, _⟩ := cell_of_three (blkOld hf (blkUp (heap_alloc_new w (.cells #[.int .i64 W, .int .i64 H, v] 48)) _))
    obtain ⟨a', b', c', _⟩ := cell_of_three (blkOld hf (by have := heap_alloc_new (w.alloc (.cells #[.int .i64 W, .int .i64 H, v] 48)) (.cells #[.int .i64 W', .int .i64 H', v'] 48); rwa [World.size_alloc] at this))
    exact ⟨⟨a, b, c⟩, a', b', c'⟩
  obtain ⟨⟨c0, c1, c2⟩, e0, e1, e2⟩ := HBX.out _ (Fr.refl _ _)
  have HNE : Hid (W ≠ W' ∨ H ≠ H') := hne
  clear hne
  go_enter Try.func25, Try.ntmps25
  go_wp2_with fail
  generalize (w.alloc (.cells #[.int .i64 W, .int .i64 H, v] 48)).alloc (.cells #[.int .i64 W', .int .i64 H', v'] 48) = w0 at *
  refine (HV.out _ HA.out).check.mono ?_
  rintro e w1 ⟨rfl, hf1⟩
  have HF1 : Hid (Fr (fun _ => False) w0 w1) := hf1
  clear hf1 c0 c1 c2 e0 e1 e2
  obtain ⟨⟨c0, c1, c2⟩, e0, e1, e2⟩ := HBX.out _ HF1.out
  go_wp2_with fail
  refine (HV'.out _ (HA.out.trans HF1.out (fun _ _ h => h))).check.mono ?_
  rintro e w2 ⟨rfl, hf2⟩
  have HF2 : Hid (Fr (fun _ => False) w0 w2) := HF1.out.trans hf2 (fun _ _ h => h)
  clear hf2 c0 c1 c2 e0 e1 e2
  obtain ⟨⟨c0, c1, c2⟩, e0, e1, e2⟩ := HBX.out _ HF2.out
  have HFE : Hid (Fr (fun _ => False) w w2) := HA.out.trans HF2.out (fun _ _ h => h)
  by_cases hw : W = W'
  · have g0 : ((W : Int) != (W' : Int)) = false := by rw [hw]; simp
    have g1 : ((H : Int) != (H' : Int)) = true := by
      rcases HNE.out with h | h
      · exact absurd hw h
      · simp; omega
    clear hw
    go_wp2_with fail
    refine (inf_any _).mono ?_
    rintro e w3 ⟨rfl, rfl⟩
    go_wp2_with fail
    all_goals (go_ret2; exact ⟨rfl, HFE.out⟩)
  · have g0 : ((W : Int) != (W' : Int)) = true := by simp; omega
    clear hw
    go_wp2_with fail
    refine (inf_any _).mono ?_
    rintro e w3 ⟨rfl, rfl⟩
    go_wp2_with fail
    all_goals (go_ret2; exact ⟨rfl, HFE.out⟩)
end Go.Proofs.Ytodgdbbhllejkaa
