/- 'wakes' returns true and leaves what was there. -/
import Derived.Test.YtflhbmapikdmhaaDoorEq
import Derived.Test.YtflhbmapikdmhaaDoorBlit
import Derived.Test.YtflhbmapikdmhaaDoorMoveUp
import Derived.Test.YtflhbmapikdmhaaDoorLay53
namespace Go.Proofs.YtflhbmapikdmhaaDoor
open Go.RowKit

theorem lay53OK : LayOK 47 (fun _ s => s) := fun b g cap W H P y fr to n gl L l w h1 h2 h3 h4 h5 h6 h7 h8 h9 => lay_53 _ _ isReplace b g cap W H P y fr to n gl L l w h1 h2 h3 h4 h5 h6 h7 h8 h9

/-- What 'wakes' asks of a blit. -/
def wakeQ (P : Nat → Nat → Bool) : Nat → Nat → Bool := laidAll P 0 1 3 (fun a => P (a - 1) 0)

theorem wake_move (b g cap : Nat) (P : Nat → Nat → Bool) (w : World) (h : MapAt w b g cap 4 1 P) :
    Calls Tryd.prog 39 #[.pointer (some ⟨b, 0, none⟩), .pointer (some ⟨b, 0, none⟩), .agg #[.int .i64 (0 : Nat), .int .i64 (1 : Nat), .int .i64 (3 : Nat)], .agg #[.int .i64 (0 : Nat), .int .i64 (0 : Nat), .int .i64 (1 : Nat)], .agg #[.int .i64 (4 : Nat), .func (.func 47) #[] #[]]] w fun e w' => e = .returned (.tuple #[]) ∧ MapAt w' b g cap 4 1 (wakeQ P) ∧ Fr (fun k => k = g) w w' := by
  refine (move_up 47 4 (fun _ s => s) lay53OK b g cap 4 1 (fun k => if k = 0 then P else wakeQ P) P 0 1 3 0 0 1 w ?_ (by omega) (by omega) (by omega) (by omega) (by omega) ?_ ?_).mono ?_
  · exact h
  · intro k x hk hx
    obtain rfl : k = 0 := by omega
    rfl
  · intro k hk
    obtain rfl : k = 0 := by omega
    rfl
  · rintro e w' ⟨he, hm, hf⟩
    exact ⟨he, hm, hf⟩

theorem wake_blit (b g cap : Nat) (P : Nat → Nat → Bool) (w : World) (h : MapAt w b g cap 4 1 P) :
    Calls Tryd.prog 10 #[.pointer (some ⟨b, 0, none⟩), .pointer (some ⟨b, 0, none⟩), .int .i64 0, .int .i64 0, .int .i64 3, .int .i64 1, .int .i64 1, .int .i64 0, .int .i64 4] w fun e w' => e = .returned (.int .i64 0) ∧ MapAt w' b g cap 4 1 (wakeQ P) ∧ Fr (fun k => k = g) w w' := by
  refine blit_core b g cap 4 1 b g cap 4 1 4 P P 0 0 3 1 1 0 (fun w' => MapAt w' b g cap 4 1 (wakeQ P)) w h h (by omega) (fun e => h.ne e.symm) (by omega) (by omega) (by omega) (by omega) (by omega) (by omega) ?_
  intro w' p1 q1 n1 p2 q2 n2 hf c1 c2
  have i0 := c1.iff 0 (by omega) (by omega)
  have i1 := c1.iff 1 (by omega) (by omega)
  have i2 := c1.iff 2 (by omega) (by omega)
  have a1 := c1.ha
  have a2 := c1.hb
  have a3 := c1.off
  have j0 := c2.iff 0 (by omega) (by omega)
  have d1 := c2.ha
  have d2 := c2.hb
  have d3 := c2.off
  obtain ⟨rfl, rfl, rfl⟩ : p1 = 0 ∧ q1 = 1 ∧ n1 = 3 := by omega
  obtain ⟨rfl, rfl, rfl⟩ : p2 = 0 ∧ q2 = 0 ∧ n2 = 1 := by omega
  exact wake_move b g cap P w' (h.kept hf (fun hh => hh) (fun hh => hh))

end Go.Proofs.YtflhbmapikdmhaaDoor

namespace Go.Proofs.YtflhbmapikdmhaaDoor
open Go.RowKit

theorem new_yes' (x y : Int) (W H : Nat) (w : World) (hx : x = W) (hy : y = H) (h1 : 1 ≤ W) (h2 : 1 ≤ H) (h3 : W * H ≤ 1048576) :
    Calls Tryd.prog 59 #[.int .i64 x, .int .i64 y] w fun e w' => ∃ b g, e = .returned (.tuple #[.pointer (some ⟨b, 0, none⟩), .int .i64 0]) ∧ NewMap w w' b g (H * stride W) W H (fun _ _ => false) := by
  subst hx; subst hy; exact new_yes W H w h1 h2 h3
theorem set_in' (b g cap W H : Nat) (P : Nat → Nat → Bool) (x' y' bit' : Int) (x y bit : Nat) (w : World) (e1 : x' = x) (e2 : y' = y) (e3 : bit' = bit) (h : MapAt w b g cap W H P) (hx : x < W) (hy : y < H) (hbit : bit ≤ 1) :
    Calls Tryd.prog 6 #[.pointer (some ⟨b, 0, none⟩), .int .i64 x', .int .i64 y', .int .i64 bit'] w fun e w' => e = .returned (.int .i64 0) ∧ MapAt w' b g cap W H (laidAll P y x 1 fun _ => decide (bit = 1)) ∧ Fr (fun k => k = g) w w' := by
  subst e1; subst e2; subst e3; exact set_in b g cap W H P x y bit w h hx hy hbit
theorem get_in' (b g cap W H : Nat) (P : Nat → Nat → Bool) (x' y' : Int) (x y n : Nat) (w : World) (e1 : x' = x) (e2 : y' = y) (hn : (P x y).toNat = n) (h : MapAt w b g cap W H P) (hx : x < W) (hy : y < H) :
    Calls Tryd.prog 20 #[.pointer (some ⟨b, 0, none⟩), .int .i64 x', .int .i64 y'] w fun e w' => e = .returned (.int .i64 (n : Nat)) ∧ ∃ q, w' = w.drewN q := by
  subst e1; subst e2; subst hn; exact get_in b g cap W H P x y w h hx hy
theorem count_is (b g cap W H : Nat) (P : Nat → Nat → Bool) (n : Nat) (w : World) (h : MapAt w b g cap W H P) (hn : pops (render W H P) = n) :
    Calls Tryd.prog 22 #[.pointer (some ⟨b, 0, none⟩)] w fun e w' => e = .returned (.int .i64 (n : Nat)) ∧ ∃ q, w' = w.drewN q := by
  subst hn; exact count_any b g cap W H P w h

def wakeP : Nat → Nat → Bool := wakeQ (laidAll (laidAll (fun _ _ => false) 0 0 1 fun _ => decide (1 = 1)) 0 1 1 fun _ => decide (1 = 1))
theorem wake_words : render 4 1 wakeP = [16140901064495857664] := by decide +kernel
theorem wake_count : pops (render 4 1 wakeP) = 3 := by decide +kernel
theorem wake_p2 : (wakeP 2 0).toNat = 1 := by decide +kernel
theorem wake_p3 : (wakeP 3 0).toNat = 0 := by decide +kernel
theorem wake_stride : 1 * stride 4 = 1 := by decide

set_option maxRecDepth 100000 in
set_option maxHeartbeats 2000000 in
theorem wakes_any (w : World) : Calls Tryd.prog 24 #[] w fun e w' => e = .returned (.bool true) ∧ Fr (fun _ => False) w w' := by
  go_enter Tryd.func24, Tryd.ntmps24
  go_wp2_with fail
  refine (new_yes' _ _ 4 1 _ rfl rfl (by omega) (by omega) (by omega)).mono ?_
  rintro e w1 ⟨b, g, rfl, hn⟩
  rw [wake_stride] at hn
  have HM : Hid (MapAt w1 b g 1 4 1 (fun _ _ => false)) := hn.at_
  have HF : Hid (Fr (fun _ => False) w w1) := hn.fr
  have HG : Hid (w.heap.size ≤ b ∧ w.heap.size ≤ g) := ⟨hn.nb, hn.ng⟩
  clear hn
  go_wp2_with fail
  refine (set_in' b g 1 4 1 _ _ _ _ 0 0 1 _ rfl rfl rfl HM.out (by omega) (by omega) (by omega)).mono ?_
  rintro e w2 ⟨rfl, hm2, hf2⟩
  have HM2 : Hid (MapAt w2 b g 1 4 1 (laidAll (fun _ _ => false) 0 0 1 fun _ => decide (1 = 1))) := hm2
  have HF2 : Hid (Fr (fun _ => False) w w2) := HF.out.trans hf2 (fun i hi e => by have := HG.out.2; omega)
  clear hm2 hf2 HM HF
  go_wp2_with fail
  refine (set_in' b g 1 4 1 _ _ _ _ 1 0 1 _ rfl rfl rfl HM2.out (by omega) (by omega) (by omega)).mono ?_
  rintro e w3 ⟨rfl, hm3, hf3⟩
  have HM3 : Hid (MapAt w3 b g 1 4 1 (laidAll (laidAll (fun _ _ => false) 0 0 1 fun _ => decide (1 = 1)) 0 1 1 fun _ => decide (1 = 1))) := hm3
  have HF3 : Hid (Fr (fun _ => False) w w3) := HF2.out.trans hf3 (fun i hi e => by have := HG.out.2; omega)
  clear hm3 hf3 HM2 HF2
  go_wp2_with fail
  refine (wake_blit b g 1 _ _ HM3.out).mono ?_
  rintro e w4 ⟨rfl, hm4, hf4⟩
  have HM4 : Hid (MapAt w4 b g 1 4 1 wakeP) := hm4
  have HF4 : Hid (Fr (fun _ => False) w w4) := HF3.out.trans hf4 (fun i hi e => by have := HG.out.2; omega)
  clear hm4 hf4 HM3 HF3
  go_wp2_with fail
  refine (count_is b g 1 4 1 wakeP 3 _ HM4.out wake_count).mono ?_
  rintro e w5 ⟨rfl, q5, rfl⟩
  go_wp2_with fail
  refine (get_in' b g 1 4 1 wakeP _ _ 2 0 1 _ rfl rfl wake_p2 (HM4.out.drewN q5) (by omega) (by omega)).mono ?_
  rintro e w6 ⟨rfl, q6, rfl⟩
  go_wp2_with fail
  refine (get_in' b g 1 4 1 wakeP _ _ 3 0 0 _ rfl rfl wake_p3 (HM4.out.drewN _) (by omega) (by omega)).mono ?_
  rintro e w7 ⟨rfl, q7, hw7⟩
  have HM7 : Hid (MapAt w7 b g 1 4 1 wakeP) := by rw [hw7]; exact (HM4.out.drewN _).drewN q7
  have HF7 : Hid (Fr (fun _ => False) w w7) := by rw [hw7]; exact (HF4.out.drewN _).drewN q7
  clear HM4 HF4 hw7
  go_wp2_with fail
  refine (plain_any b g 1 4 1 wakeP _ HM7.out).mono ?_
  rintro e w8 ⟨g2, cap2, rfl, ho8, hf8, hg2⟩
  rw [wake_stride] at ho8 ⊢
  have HO8 : Hid (Seen w8 (.slice (some ⟨g2, 0, none⟩) 1 cap2) [16140901064495857664]) := by
    rw [wake_words] at ho8
    exact Seen.of_row ho8 (by decide)
  have HF8 : Hid (Fr (fun _ => False) w w8) := HF7.out.trans hf8 (fun _ _ hh => hh)
  clear ho8 hf8 hg2 HM7 HF7
  have HO9 : Hid (Seen (w8.alloc (.cells #[.int .u64 16140901064495857664] 77)) (.slice (some ⟨w8.heap.size, 0, none⟩) 1 1) [16140901064495857664]) :=
    Seen.of_row (base := w8.heap.size) (World.ownsRow_lit (size := 1) w8 #[.int .u64 16140901064495857664] 1 (Nat.le_refl _) (by decide) rfl) (by decide)
  go_wp2_with fail
  refine (eqBitmap_same 4 1 _ _ [16140901064495857664] _ (HO8.out.kept ((Fr.refl (fun _ => False) _).alloc _)) HO9.out).mono ?_
  rintro e w9 ⟨rfl, hf9⟩
  have HF9 : Hid (Fr (fun _ => False) w w9) := (HF8.out.alloc _).trans hf9 (fun _ _ hh => hh)
  clear hf9
  go_wp2_with fail
  go_ret
  exact ⟨rfl, HF9.out⟩

end Go.Proofs.YtflhbmapikdmhaaDoor
