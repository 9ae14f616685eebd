/- Maps: Get, Set, Size. -/
import Derived.Test.YtpfajkkjnobdlaaDoorFm
namespace Go.Proofs.YtpfajkkjnobdlaaDoor
open Go.RowKit

set_option maxRecDepth 100000 in
set_option maxHeartbeats 1000000 in
theorem inside_any (b g cap W H : Nat) (P : Nat → Nat → Bool) (x y : Int) (w : World) (h : MapAt w b g cap W H P) :
    Calls Tryd.prog 57 #[.pointer (some ⟨b, 0, none⟩), .int .i64 x, .int .i64 y] w fun e w' => e = .returned (.bool (decide (0 ≤ x ∧ x < W ∧ 0 ≤ y ∧ y < H))) ∧ w' = w := by
  obtain ⟨c0, c1, c2, c3, cf⟩ := cell_of_four h.blk
  clear h
  go_enter Tryd.func57, Tryd.ntmps57
  by_cases h0 : 0 ≤ x
  · by_cases h1 : x < W
    · by_cases h2 : 0 ≤ y
      · go_wp2
        go_ret
        exact ⟨by simp [h0, h1, h2], rfl⟩
      · go_wp2
        go_ret
        exact ⟨by simp; omega, rfl⟩
    · go_wp2
      go_ret
      exact ⟨by simp; omega, rfl⟩
  · go_wp2
    go_ret
    exact ⟨by simp; omega, rfl⟩

set_option maxRecDepth 100000 in
set_option maxHeartbeats 1000000 in
theorem get_in (b g cap W H : Nat) (P : Nat → Nat → Bool) (x y : Nat) (w : World) (h : MapAt w b g cap W H P) (hx : x < W) (hy : y < H) :
    Calls Tryd.prog 40 #[.pointer (some ⟨b, 0, none⟩), .int .i64 x, .int .i64 y] w fun e w' => e = .returned (.int .i64 ((P x y).toNat : Nat)) ∧ ∃ q, w' = w.drewN q := by
  have HA : Hid (MapAt w b g cap W H P) := h
  obtain ⟨f1, f2, f3⟩ := size_facts h.wpos h.hpos h.area
  have hc := h.word (y := y) (j := x / 64) hy (by unfold stride; omega)
  have hpx := pix_wd (y := y) P hx
  have hlt := wd_lt W P y (x / 64)
  have hj : x / 64 < stride W := by unfold stride; omega
  clear h
  go_enter Tryd.func40, Tryd.ntmps40
  go_wp2_with fail
  refine (inside_any b g cap W H P x y _ HA.out).mono ?_
  rintro e w1 ⟨rfl, rfl⟩
  rw [decide_eq_true (by omega)]
  go_wp2_with fail
  refine (row_any b g cap W H P y _ HA.out hy).mono ?_
  rintro e w2 ⟨rfl, q, rfl⟩
  go_wp2_with fail
  go_ret
  refine ⟨congrArg (fun x => Ending.returned (Value.int .i64 x)) ?_, q, rfl⟩
  rw [← hpx, ← bit_num _ _ hlt]

set_option maxRecDepth 100000 in
set_option maxHeartbeats 1000000 in
theorem get_out (b g cap W H : Nat) (P : Nat → Nat → Bool) (x y : Int) (w : World) (h : MapAt w b g cap W H P) (hx : ¬ (0 ≤ x ∧ x < W ∧ 0 ≤ y ∧ y < H)) :
    Calls Tryd.prog 40 #[.pointer (some ⟨b, 0, none⟩), .int .i64 x, .int .i64 y] w fun e w' => e = .returned (.int .i64 0) ∧ w' = w := by
  go_enter Tryd.func40, Tryd.ntmps40
  go_wp2_with fail
  refine (inside_any b g cap W H P x y _ h).mono ?_
  rintro e w1 ⟨rfl, rfl⟩
  rw [decide_eq_false hx]
  go_wp2_with fail
  go_ret
  exact ⟨rfl, rfl⟩

set_option maxRecDepth 100000 in
set_option maxHeartbeats 1000000 in
theorem size_any (b g cap W H : Nat) (P : Nat → Nat → Bool) (w : World) (h : MapAt w b g cap W H P) :
    Calls Tryd.prog 39 #[.pointer (some ⟨b, 0, none⟩)] w fun e w' => e = .returned (.tuple #[.int .i64 W, .int .i64 H]) ∧ ∃ q, w' = w.drewN q := by
  obtain ⟨c0, c1, c2, c3, cf⟩ := cell_of_four h.blk
  clear h
  go_enter Tryd.func39, Tryd.ntmps39
  go_wp2
  go_region
  go_wp2
  go_ret2
  exact ⟨rfl, 1, rfl⟩

set_option maxRecDepth 100000 in
set_option maxHeartbeats 1000000 in
theorem set_in (b g cap W H : Nat) (P : Nat → Nat → Bool) (x y bit : Nat) (w : World) (h : MapAt w b g cap W H P) (hx : x < W) (hy : y < H) (hbit : bit ≤ 1) :
    Calls Tryd.prog 66 #[.pointer (some ⟨b, 0, none⟩), .int .i64 x, .int .i64 y, .int .i64 bit] w fun e w' => e = .returned (.int .i64 0) ∧ MapAt w' b g cap W H (laidAll P y x 1 fun _ => decide (bit = 1)) ∧ Fr (fun k => k = g) w w' := by
  have HA : Hid (MapAt w b g cap W H P) := h
  clear h
  go_enter Tryd.func66, Tryd.ntmps66
  go_wp2_with fail
  refine (inside_any b g cap W H P x y _ HA.out).mono ?_
  rintro e w1 ⟨rfl, rfl⟩
  rw [decide_eq_true (by omega)]
  go_wp2_with fail
  refine (isBit_any bit _).mono ?_
  rintro e w1 ⟨rfl, rfl⟩
  rw [decide_eq_true (by omega)]
  go_wp2_with fail
  refine (row_any b g cap W H P y _ HA.out hy).mono ?_
  rintro e w2 ⟨rfl, q, rfl⟩
  go_wp2_with fail
  refine (paint_any b g cap W H P y x 1 bit 0 _ (HA.out.drewN q) hy (by omega) hbit).mono ?_
  rintro e w3 ⟨rfl, hm, hf⟩
  have HM : Hid (MapAt w3 b g cap W H (laidAll P y x 1 fun _ => decide (bit = 1))) := hm
  have HF : Hid (Fr (fun k => k = g) w1 w3) := ((Fr.refl _ w1).drewN q).trans hf (fun _ _ hh => hh)
  clear hm hf
  go_wp2_with fail
  go_ret
  exact ⟨rfl, HM.out, HF.out⟩

set_option maxRecDepth 100000 in
set_option maxHeartbeats 1000000 in
theorem set_out (b g cap W H : Nat) (P : Nat → Nat → Bool) (x y bit : Int) (w : World) (h : MapAt w b g cap W H P) (hx : ¬ (0 ≤ x ∧ x < W ∧ 0 ≤ y ∧ y < H)) :
    Calls Tryd.prog 66 #[.pointer (some ⟨b, 0, none⟩), .int .i64 x, .int .i64 y, .int .i64 bit] w fun e w' => e = .returned (.int .i64 22) ∧ w' = w := by
  go_enter Tryd.func66, Tryd.ntmps66
  go_wp2_with fail
  refine (inside_any b g cap W H P x y _ h).mono ?_
  rintro e w1 ⟨rfl, rfl⟩
  rw [decide_eq_false hx]
  go_wp2_with fail
  go_ret
  exact ⟨rfl, rfl⟩

end Go.Proofs.YtpfajkkjnobdlaaDoor
