/- 'Crop' by pixels; pixels at any place. -/
import Derived.Test.YtpblenebmjmijaaBlits
import Derived.Test.YtpblenebmjmijaaCnt
namespace Go.Proofs.Ytpblenebmjmijaa
open Go.RowKit

theorem crop_pix (W H w h : Nat) (P : Nat → Nat → Bool) (x y : Int) : ∀ a b, a < w → b < h → blitPix (opB 4) (fun _ _ => false) P W H x y w h 0 0 a b = cropPix W H P x y a b := by
  intro a b ha hb
  unfold blitPix cropPix
  by_cases hc : 0 ≤ x + (a : Int) ∧ x + (a : Int) < W ∧ 0 ≤ y + (b : Int) ∧ y + (b : Int) < H
  · rw [if_pos ⟨⟨by omega, by omega, by omega, by omega⟩, by omega, by omega, by omega, by omega⟩]
    unfold getPix
    rw [decide_eq_true hc, Int.sub_zero, Int.sub_zero]
    rfl
  · rw [if_neg (by rintro ⟨⟨_, _, _, _⟩, _, _, _, _⟩; omega), getPix_out hc]

theorem crop_pix_or (W H w h : Nat) (P : Nat → Nat → Bool) (x y : Int) : ∀ a b, a < w → b < h → blitPix (opB 0) (fun _ _ => false) P W H x y w h 0 0 a b = cropPix W H P x y a b := by
  intro a b ha hb
  unfold blitPix cropPix
  by_cases hc : 0 ≤ x + (a : Int) ∧ x + (a : Int) < W ∧ 0 ≤ y + (b : Int) ∧ y + (b : Int) < H
  · rw [if_pos ⟨⟨by omega, by omega, by omega, by omega⟩, by omega, by omega, by omega, by omega⟩]
    unfold getPix
    rw [decide_eq_true hc, Int.sub_zero, Int.sub_zero]
    rfl
  · rw [if_neg (by rintro ⟨⟨_, _, _, _⟩, _, _, _, _⟩; omega), getPix_out hc]

set_option maxRecDepth 100000 in
set_option maxHeartbeats 1000000 in
theorem crop_any (bs gs caps W H : Nat) (P : Nat → Nat → Bool) (x y : Int) (ww hh : Nat) (w : World) (h : MapAt w bs gs caps W H P) (h1 : 1 ≤ ww) (h2 : 1 ≤ hh) (h3 : ww * hh ≤ 1048576)
    (hx : -9223372036854775808 ≤ x ∧ x ≤ 9223372036854775807) (hy : -9223372036854775808 ≤ y ∧ y ≤ 9223372036854775807) :
    Calls Try.prog 46 #[.pointer (some ⟨bs, 0, none⟩), .int .i64 x, .int .i64 y, .int .i64 ww, .int .i64 hh] w fun e w' => ∃ b g, e = .returned (.tuple #[.pointer (some ⟨b, 0, none⟩), .int .i64 0]) ∧ NewMap w w' b g (hh * stride ww) ww hh (cropPix W H P x y) := by
  obtain ⟨f1, f2, f3⟩ := size_facts h1 h2 h3
  have HA : Hid (MapAt w bs gs caps W H P) := h
  have HBD : Hid ((-9223372036854775808 ≤ x ∧ x ≤ 9223372036854775807) ∧ (-9223372036854775808 ≤ y ∧ y ≤ 9223372036854775807) ∧ ww ≤ 1048576 ∧ hh ≤ 1048576) := ⟨hx, hy, f1, f2⟩
  have HNW : Hid (∀ w', Calls Try.prog 17 #[.int .i64 ww, .int .i64 hh] w' fun e w'' => ∃ b g, e = .returned (.tuple #[.pointer (some ⟨b, 0, none⟩), .int .i64 0]) ∧ NewMap w' w'' b g (hh * stride ww) ww hh (fun _ _ => false)) := fun w' => new_yes ww hh w' h1 h2 h3
  clear h h1 h2 h3 f1 f2 f3 hx hy
  go_enter Try.func46, Try.ntmps46
  go_wp2_with fail
  refine (HNW.out _).mono ?_
  rintro e w1 ⟨b, g, rfl, hn⟩
  have HN : Hid (NewMap w w1 b g (hh * stride ww) ww hh (fun _ _ => false)) := hn
  have HBL : Hid (Calls Try.prog 31 #[.pointer (some ⟨b, 0, none⟩), .pointer (some ⟨bs, 0, none⟩), .int .i64 x, .int .i64 y, .int .i64 ww, .int .i64 hh, .int .i64 0, .int .i64 0, .int .i64 4] w1 fun e w' => e = .returned (.int .i64 0) ∧ MapAt w' b g (hh * stride ww) ww hh (blitPix (opB 4) (fun _ _ => false) P W H x y ww hh 0 0) ∧ Fr (fun k => k = g) w1 w') := by
    have q1 := HA.out.lt
    have q2 := HA.out.glt
    have q3 := hn.nb
    have q4 := hn.ng
    obtain ⟨c1, c2, c3, c4⟩ := HBD.out
    exact blit_other 4 b g (hh * stride ww) ww hh bs gs caps W H (fun _ _ => false) P x y ww hh 0 0 w1 hn.at_ (HA.out.kept hn.fr (fun x => x) (fun x => x)) (by omega) (by omega) (by omega) (by omega) c1 c2 (by omega) (by omega) (by omega) (by omega)
  clear hn HA HNW
  go_wp2_with fail
  refine HBL.out.mono ?_
  rintro e w2 ⟨rfl, hm, hf⟩
  have HR : Hid (NewMap w w2 b g (hh * stride ww) ww hh (cropPix W H P x y)) := ⟨hm.pix (crop_pix W H ww hh P x y), HN.out.fr.trans hf (fun i hi e => by have := HN.out.ng; omega), HN.out.nb, HN.out.ng⟩
  clear hm hf
  go_wp2_with fail
  go_ret2
  exact ⟨b, g, rfl, HR.out⟩

end Go.Proofs.Ytpblenebmjmijaa
