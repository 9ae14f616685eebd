/- 'BitmapCrops' returns true. -/
import Derived.Test.YtcopbjinnegfoaaSmallish
import Derived.Test.YtcopbjinnegfoaaMay
import Derived.Test.YtcopbjinnegfoaaFrom
import Derived.Test.YtcopbjinnegfoaaRef
import Derived.Test.YtcopbjinnegfoaaCrop
import Derived.Test.YtcopbjinnegfoaaWakes
namespace Go.Proofs.Ytcopbjinnegfoaa
open Go.RowKit

theorem tmod_bd (i : Int) (n : Nat) (h1 : 1 ≤ n) : -(n : Int) < i.tmod n ∧ i.tmod n < n := by
  have hpos : 0 < (n : Int) := by omega
  rcases Int.le_total 0 i with h | h
  · rw [Int.tmod_eq_emod_of_nonneg h]
    have a1 := Int.emod_nonneg i (show (n : Int) ≠ 0 by omega)
    have a2 := Int.emod_lt_of_pos i hpos
    omega
  · have e : i.tmod n = -((-i) % n) := by
      rw [← Int.tmod_eq_emod_of_nonneg (show 0 ≤ -i by omega), Int.neg_tmod]; omega
    have a1 := Int.emod_nonneg (-i) (show (n : Int) ≠ 0 by omega)
    have a2 := Int.emod_lt_of_pos (-i) hpos
    omega

set_option maxRecDepth 100000 in
set_option maxHeartbeats 4000000 in
theorem crops_any (x y x2 y2 n0 n1 n2 n3 n4 n5 n6 n7 : Int) (v v2 : Value) (l : List Nat) (w : World) (hx : -9223372036854775808 ≤ x ∧ x ≤ 9223372036854775807) (hy : -9223372036854775808 ≤ y ∧ y ≤ 9223372036854775807) (hv : Seen w v l) (hlt : ∀ j : Nat, l[j]?.getD 0 < 18446744073709551616) (hv2 : ∃ ao m c, v2 = .slice ao m c)
    (b2 : -9223372036854775808 ≤ n2 ∧ n2 ≤ 9223372036854775807) (b3 : -9223372036854775808 ≤ n3 ∧ n3 ≤ 9223372036854775807) (b4 : -9223372036854775808 ≤ n4 ∧ n4 ≤ 9223372036854775807) (b5 : -9223372036854775808 ≤ n5 ∧ n5 ≤ 9223372036854775807) :
    Calls Try.prog 7 #[.agg #[.int .i64 x, .int .i64 y, v, .int .i64 x2, .int .i64 y2, v2, .int .i64 n0, .int .i64 n1, .int .i64 n2, .int .i64 n3, .int .i64 n4, .int .i64 n5, .int .i64 n6, .int .i64 n7]] w fun e w' => e = .returned (.bool true) ∧ Fr (fun _ => False) w w' := by
  obtain ⟨ao2, m2, c2, rfl⟩ := hv2
  have HMY : Hid (∀ w', Fr (fun _ => False) w w' → Calls Try.prog 14 #[.agg #[.int .i64 x, .int .i64 y, v]] w' fun e w'' => e = .returned (.bool (validB x y l)) ∧ Fr (fun _ => False) w' w'') := fun w' hf => may_any x y v l w' hx hy (hv.kept hf) hlt
  have HV : Hid (Seen w v l) := hv
  have HLT : Hid (∀ j : Nat, l[j]?.getD 0 < 18446744073709551616) := hlt
  obtain ⟨ao, cap, hve, hll, _⟩ := hv
  clear hlt
  subst hve
  generalize l.length = n at *
  have HBX : Hid (∀ w' : World, Fr (fun _ => False) (w.alloc (.cells #[.int .i64 x, .int .i64 y, .slice ao n cap, .int .i64 x2, .int .i64 y2, .slice ao2 m2 c2, .int .i64 n0, .int .i64 n1, .int .i64 n2, .int .i64 n3, .int .i64 n4, .int .i64 n5, .int .i64 n6, .int .i64 n7] 40)) w' → (w'.cell? ⟨w.heap.size, 0, none⟩ = some (.int .i64 x) ∧ w'.cell? ⟨w.heap.size, 1, none⟩ = some (.int .i64 y) ∧ w'.cell? ⟨w.heap.size, 2, none⟩ = some (.slice ao n cap)) ∧ (w'.cell? ⟨w.heap.size, 6, none⟩ = some (.int .i64 n0) ∧ w'.cell? ⟨w.heap.size, 7, none⟩ = some (.int .i64 n1) ∧ w'.cell? ⟨w.heap.size, 8, none⟩ = some (.int .i64 n2) ∧ w'.cell? ⟨w.heap.size, 9, none⟩ = some (.int .i64 n3) ∧ w'.cell? ⟨w.heap.size, 10, none⟩ = some (.int .i64 n4) ∧ w'.cell? ⟨w.heap.size, 11, none⟩ = some (.int .i64 n5) ∧ w'.cell? ⟨w.heap.size, 12, none⟩ = some (.int .i64 n6) ∧ w'.cell? ⟨w.heap.size, 13, none⟩ = some (.int .i64 n7))) := fun w' hf => by
    have hB : w'.heap[w.heap.size]? = some (.cells #[.int .i64 x, .int .i64 y, .slice ao n cap, .int .i64 x2, .int .i64 y2, .slice ao2 m2 c2, .int .i64 n0, .int .i64 n1, .int .i64 n2, .int .i64 n3, .int .i64 n4, .int .i64 n5, .int .i64 n6, .int .i64 n7] 40 (0, 0)) := by
      rw [hf.block _ (by simp) (fun hh => hh)]; exact heap_alloc_new _ _
    refine ⟨⟨?_, ?_, ?_⟩, ?_, ?_, ?_, ?_, ?_, ?_, ?_, ?_⟩ <;> (unfold World.cell?; rw [hB]; rfl)
  go_enter Try.func7, Try.ntmps7
  go_wp2_with fail
  refine (HMY.out _ ((Fr.refl _ _).alloc _)).mono ?_
  rintro e w1 ⟨rfl, hf1⟩
  have HF1 : Hid (Fr (fun _ => False) (w.alloc (.cells #[.int .i64 x, .int .i64 y, .slice ao n cap, .int .i64 x2, .int .i64 y2, .slice ao2 m2 c2, .int .i64 n0, .int .i64 n1, .int .i64 n2, .int .i64 n3, .int .i64 n4, .int .i64 n5, .int .i64 n6, .int .i64 n7] 40)) w1) := hf1
  have HW1 : Hid (Fr (fun _ => False) w w1) := ((Fr.refl _ _).alloc _).trans hf1 (fun _ _ hh => hh)
  obtain ⟨⟨k0, k1, k2⟩, _⟩ := HBX.out w1 hf1
  clear hf1
  rcases hvb : validB x y l with _ | _
  · go_wp2_with fail
    refine (wakes_any _).mono ?_
    rintro e w9 ⟨rfl, hf9⟩
    have HF9 : Hid (Fr (fun _ => False) w w9) := HW1.out.trans hf9 (fun _ _ hh => hh)
    clear hf9
    go_wp2_with fail
    go_ret
    exact ⟨rfl, HF9.out⟩
  · obtain ⟨W, H, rfl, rfl, h1, h2, h3, hl, hr⟩ := valid_parts hvb
    obtain ⟨f1, f2, f3⟩ := size_facts h1 h2 h3
    have HSZ : Hid (1 ≤ W ∧ 1 ≤ H ∧ W * H ≤ 1048576) := ⟨h1, h2, h3⟩
    have HFR : Hid (∀ w', Fr (fun _ => False) w w' → Calls Try.prog 16 #[.agg #[.int .i64 W, .int .i64 H, .slice ao n cap]] w' fun e w'' => ∃ b g cap, e = .returned (.tuple #[.pointer (some ⟨b, 0, none⟩), .int .i64 0]) ∧ NewMap w' w'' b g cap W H (pixOf W l)) := fun w' hf => from_yes W H _ l w' h1 h2 h3 (HV.out.kept hf) HLT.out hl hr
    have hrn : l = render W H (pixOf W l) := valid_render W H l h1 hl hr HLT.out
    have HVR : Hid (∀ w', Fr (fun _ => False) w w' → Seen w' (.slice ao n cap) (render W H (pixOf W l))) := fun w' hf => by rw [← hrn]; exact HV.out.kept hf
    clear hrn h1 h2 h3 hl hr hx hy hvb HMY HLT f3 HV
    generalize pixOf W l = P at *
    go_wp2_with fail
    refine (small_any w1.heap.size 0 1 1 60000 _ (by omega) ?_).mono ?_
    · intro i hi
      obtain rfl : i = 0 := by omega
      refine ⟨ao, n, cap, ?_⟩
      have := heap_alloc_new w1 (.cells #[.int .i64 W, .int .i64 H, .slice ao n cap] 37)
      unfold World.cell?
      rw [this]; rfl
    rintro e w2 ⟨bb, rfl, q2, hw2⟩
    have HF2 : Hid (Fr (fun _ => False) (w.alloc (.cells #[.int .i64 W, .int .i64 H, .slice ao n cap, .int .i64 x2, .int .i64 y2, .slice ao2 m2 c2, .int .i64 n0, .int .i64 n1, .int .i64 n2, .int .i64 n3, .int .i64 n4, .int .i64 n5, .int .i64 n6, .int .i64 n7] 40)) w2) := by rw [hw2]; exact (HF1.out.alloc _).drewN q2
    have HW2 : Hid (Fr (fun _ => False) w w2) := by rw [hw2]; exact (HW1.out.alloc _).drewN q2
    clear hw2 HF1 HW1 k0 k1 k2
    obtain ⟨⟨k0, k1, k2⟩, _⟩ := HBX.out w2 HF2.out
    cases bb
    · go_wp2_with fail
      refine (wakes_any _).mono ?_
      rintro e w9 ⟨rfl, hf9⟩
      have HF9 : Hid (Fr (fun _ => False) w w9) := HW2.out.trans hf9 (fun _ _ hh => hh)
      clear hf9
      go_wp2_with fail
      go_ret
      exact ⟨rfl, HF9.out⟩
    · go_wp2_with fail
      refine (HFR.out _ HW2.out).mono ?_
      rintro e w3 ⟨ba, ga, ca, rfl, hn3⟩
      have HA3 : Hid (MapAt w3 ba ga ca W H P) := hn3.at_
      have HF3 : Hid (Fr (fun _ => False) (w.alloc (.cells #[.int .i64 W, .int .i64 H, .slice ao n cap, .int .i64 x2, .int .i64 y2, .slice ao2 m2 c2, .int .i64 n0, .int .i64 n1, .int .i64 n2, .int .i64 n3, .int .i64 n4, .int .i64 n5, .int .i64 n6, .int .i64 n7] 40)) w3) := HF2.out.trans hn3.fr (fun _ _ hh => hh)
      clear hn3 HF2 HW2 k0 k1 k2
      obtain ⟨⟨k0, k1, k2⟩, m0, m1, m2', m3, m4, m5, m6, m7⟩ := HBX.out w3 HF3.out
      have t0 : -200 < n0.tmod 200 ∧ n0.tmod 200 < 200 := tmod_bd n0 200 (by omega)
      have t1 : -30 < n1.tmod 30 ∧ n1.tmod 30 < 30 := tmod_bd n1 30 (by omega)
      obtain ⟨wa, hwa⟩ : ∃ wa : Nat, n2 % 150 = (wa : Int) := ⟨(n2 % 150).toNat, by omega⟩
      obtain ⟨ha, hha⟩ : ∃ ha : Nat, n3 % 30 = (ha : Int) := ⟨(n3 % 30).toNat, by omega⟩
      have lw : wa < 150 := by omega
      have lh : ha < 30 := by omega
      have HI2 : Hid (∀ w' : World, Calls Try.prog 17 #[.int .i64 n2, .int .i64 150] w' fun e w'' => e = .returned (.int .i64 wa) ∧ w'' = w') := fun w' => by have := within_any n2 150 w' b2 (by omega) (by omega); rw [show ((150 : Nat) : Int) = 150 from rfl, hwa] at this; exact this
      have HI3 : Hid (∀ w' : World, Calls Try.prog 17 #[.int .i64 n3, .int .i64 30] w' fun e w'' => e = .returned (.int .i64 ha) ∧ w'' = w') := fun w' => by have := within_any n3 30 w' b3 (by omega) (by omega); rw [show ((30 : Nat) : Int) = 30 from rfl, hha] at this; exact this
      clear hwa hha b2 b3
      go_wp2_with fail
      refine (HI2.out _).mono ?_
      rintro e w4 ⟨rfl, rfl⟩
      go_wp2_with fail
      refine (HI3.out _).mono ?_
      rintro e w4 ⟨rfl, rfl⟩
      generalize n0.tmod 200 = X at *
      generalize n1.tmod 30 = Y at *
      obtain ⟨ww, hww⟩ : ∃ ww : Nat, (1 : Int) + (wa : Int) = (ww : Int) := ⟨1 + wa, by omega⟩
      obtain ⟨hh, hhh⟩ : ∃ hh : Nat, (1 : Int) + (ha : Int) = (hh : Int) := ⟨1 + ha, by omega⟩
      have w1' : 1 ≤ ww ∧ ww ≤ 150 := by omega
      have h1' : 1 ≤ hh ∧ hh ≤ 30 := by omega
      have HAR : Hid (ww * hh ≤ 1048576) := Nat.le_trans (Nat.mul_le_mul w1'.2 h1'.2) (by omega)
      have HWF : Hid (∀ w', Fr (fun _ => False) w4 w' → Fr (fun _ => False) w w' ∧ Fr (fun _ => False) (w.alloc (.cells #[.int .i64 W, .int .i64 H, .slice ao n cap, .int .i64 x2, .int .i64 y2, .slice ao2 m2 c2, .int .i64 n0, .int .i64 n1, .int .i64 n2, .int .i64 n3, .int .i64 n4, .int .i64 n5, .int .i64 n6, .int .i64 n7] 40)) w') := fun w' hf => ⟨((Fr.refl _ _).alloc _).trans (HF3.out.trans hf (fun _ _ hh => hh)) (fun _ _ hh => hh), HF3.out.trans hf (fun _ _ hh => hh)⟩
      have HM : Hid (∀ w', Fr (fun _ => False) w4 w' → MapAt w' ba ga ca W H P) := fun w' hf => HA3.out.kept hf (fun x => x) (fun x => x)
      clear HF3 HA3 HI2 HI3
      go_wp2_with fail
      clear hww hhh lw lh
      refine (crop_any ba ga ca W H P X Y ww hh _ (HM.out _ (Fr.refl _ _)) w1'.1 h1'.1 HAR.out (by omega) (by omega)).mono ?_
      rintro e w5 ⟨bc, gc, rfl, hn5⟩
      have HF5 : Hid (Fr (fun _ => False) w4 w5) := hn5.fr
      have HC5 : Hid (∀ w', Fr (fun k => w5.heap.size ≤ k) w5 w' → MapAt w' bc gc (hh * stride ww) ww hh (cropPix W H P X Y)) := fun w' hf => hn5.at_.kept hf (by have := hn5.at_.lt; omega) (by have := hn5.at_.glt; omega)
      clear hn5
      go_wp2_with fail
      refine (new_yes ww hh _ w1'.1 h1'.1 HAR.out).mono ?_
      rintro e w6 ⟨bd, gd, rfl, hn6⟩
      have HF6 : Hid (Fr (fun _ => False) w5 w6) := hn6.fr
      have HBL : Hid (Calls Try.prog 18 #[.pointer (some ⟨bd, 0, none⟩), .pointer (some ⟨ba, 0, none⟩), .int .i64 X, .int .i64 Y, .int .i64 ww, .int .i64 hh, .int .i64 0, .int .i64 0, .int .i64 0] w6 fun e w' => e = .returned (.int .i64 0) ∧ MapAt w' bd gd (hh * stride ww) ww hh (blitPix (opB 0) (fun _ _ => false) P W H X Y ww hh 0 0) ∧ Fr (fun k => w5.heap.size ≤ k) w6 w') := by
        have hm := HM.out w5 HF5.out
        have q1 := hm.lt
        have q2 := hm.glt
        have q3 := hn6.nb
        have q4 := hn6.ng
        refine (blit_other 0 bd gd (hh * stride ww) ww hh ba ga ca W H (fun _ _ => false) P X Y ww hh 0 0 w6 hn6.at_ (hm.kept hn6.fr (fun x => x) (fun x => x)) (by omega) (by omega) (by omega) (by omega) (by omega) (by omega) (by omega) (by omega) (by omega) (by omega)).mono ?_
        rintro e w' ⟨he, hm, hf⟩
        exact ⟨he, hm, hf.mono (fun i _ e => by omega)⟩
      clear hn6
      go_wp2_with fail
      refine HBL.out.mono ?_
      rintro e w7 ⟨rfl, hm7, hf7⟩
      have HD7 : Hid (MapAt w7 bd gd (hh * stride ww) ww hh (cropPix W H P X Y)) := hm7.pix (crop_pix_or W H ww hh P X Y)
      have HF7 : Hid (Fr (fun k => w5.heap.size ≤ k) w5 w7) := (HF6.out.mono (T := fun k => w5.heap.size ≤ k) (fun _ _ hh => hh.elim)).trans hf7 (fun _ _ hh => hh)
      clear hm7 hf7 HBL HF6
      go_wp2_with fail
      refine (plain_any bd gd (hh * stride ww) ww hh (cropPix W H P X Y) _ HD7.out).mono ?_
      rintro e w8 ⟨gp, cp, rfl, ho8, hf8, _⟩
      have hwl := HD7.out.words_le
      have HS8 : Hid (Seen w8 (.slice (some ⟨gp, 0, none⟩) (hh * stride ww) cp) (render ww hh (cropPix W H P X Y))) := by
        have := Seen.of_row (base := 0) (v := .slice (some ⟨gp, 0, none⟩) (hh * stride ww) cp) (l := render ww hh (cropPix W H P X Y)) (w := w8) (by rw [length_render]; exact ho8) (by rw [length_render]; omega)
        exact this
      have HF8 : Hid (Fr (fun k => w5.heap.size ≤ k) w5 w8) := HF7.out.trans hf8 (fun _ _ hh => hh.elim)
      clear ho8 hf8 HD7 HF7
      go_wp2_with fail
      refine (same_any bc gc (hh * stride ww) ww hh (cropPix W H P X Y) ww hh _ (render ww hh (cropPix W H P X Y)) _ (HC5.out _ HF8.out) HS8.out).mono ?_
      rintro e w9 ⟨rfl, hf9⟩
      have hsb : ∀ (a b : Nat) (Q : Nat → Nat → Bool), sameB a b Q a b (render a b Q) = true := fun a b Q => by unfold sameB eqB; simp
      rw [hsb]
      have HSB : Hid (∀ (a b : Nat) (Q : Nat → Nat → Bool), sameB a b Q a b (render a b Q) = true) := hsb
      have HF9 : Hid (Fr (fun k => w5.heap.size ≤ k) w5 w9) := HF8.out.trans hf9 (fun _ _ hh => hh.elim)
      clear hf9 hsb HF8 HS8 hwl
      have HL9 : Hid (Fr (fun _ => False) w4 w9) := HF5.out.trans HF9.out (fun i hi hh => by have := HF5.out.size; omega)
      have HM9 : Hid (∀ w', Fr (fun _ => False) w9 w' → MapAt w' ba ga ca W H P) := fun w' hf => HM.out w' (HL9.out.trans hf (fun _ _ hh => hh))
      have HC9 : Hid (∀ w', Fr (fun _ => False) w9 w' → MapAt w' bc gc (hh * stride ww) ww hh (cropPix W H P X Y)) := fun w' hf => HC5.out w' (HF9.out.trans hf (fun _ _ hh => hh.elim))
      have HX9 : Hid (∀ w', Fr (fun _ => False) w9 w' → Fr (fun _ => False) w w' ∧ Fr (fun _ => False) (w.alloc (.cells #[.int .i64 W, .int .i64 H, .slice ao n cap, .int .i64 x2, .int .i64 y2, .slice ao2 m2 c2, .int .i64 n0, .int .i64 n1, .int .i64 n2, .int .i64 n3, .int .i64 n4, .int .i64 n5, .int .i64 n6, .int .i64 n7] 40)) w') := fun w' hf => HWF.out w' (HL9.out.trans hf (fun _ _ hh => hh))
      clear HL9 HM HC5 HWF HF5 HF9 k0 k1 k2 m0 m1 m2' m3 m4 m5 m6 m7
      obtain ⟨⟨k0, k1, k2⟩, m0, m1, m2', m3, m4, m5, m6, m7⟩ := HBX.out w9 (HX9.out w9 (Fr.refl _ _)).2
      obtain ⟨u, hu⟩ : ∃ u : Nat, n4 % (ww : Int) = (u : Int) := ⟨(n4 % (ww : Int)).toNat, by have := Int.emod_nonneg n4 (show (ww : Int) ≠ 0 by omega); omega⟩
      obtain ⟨v, hv⟩ : ∃ v : Nat, n5 % (hh : Int) = (v : Int) := ⟨(n5 % (hh : Int)).toNat, by have := Int.emod_nonneg n5 (show (hh : Int) ≠ 0 by omega); omega⟩
      have lu : u < ww := by have := Int.emod_lt_of_pos n4 (show 0 < (ww : Int) by omega); omega
      have lv : v < hh := by have := Int.emod_lt_of_pos n5 (show 0 < (hh : Int) by omega); omega
      have HI4 : Hid (∀ w' : World, Calls Try.prog 17 #[.int .i64 n4, .int .i64 ww] w' fun e w'' => e = .returned (.int .i64 u) ∧ w'' = w') := fun w' => by have := within_any n4 ww w' b4 (by omega) (by omega); rw [hu] at this; exact this
      have HI5 : Hid (∀ w' : World, Calls Try.prog 17 #[.int .i64 n5, .int .i64 hh] w' fun e w'' => e = .returned (.int .i64 v) ∧ w'' = w') := fun w' => by have := within_any n5 hh w' b5 (by omega) (by omega); rw [hv] at this; exact this
      clear hu hv b4 b5
      go_wp2_with fail
      refine (HI4.out _).mono ?_
      rintro e w10 ⟨rfl, rfl⟩
      go_wp2_with fail
      refine (HI5.out _).mono ?_
      rintro e w10 ⟨rfl, rfl⟩
      obtain ⟨pw, hpw⟩ : ∃ pw : Nat, (ww : Int) - (u : Int) = (pw : Int) := ⟨ww - u, by omega⟩
      obtain ⟨ph, hph⟩ : ∃ ph : Nat, (hh : Int) - (v : Int) = (ph : Int) := ⟨hh - v, by omega⟩
      have w2' : 1 ≤ pw ∧ pw ≤ 150 := by omega
      have h2' : 1 ≤ ph ∧ ph ≤ 30 := by omega
      have HCC : Hid (∀ a b, a < pw → b < ph → cropPix ww hh (cropPix W H P X Y) u v a b = cropPix W H P (X + u) (Y + v) a b) := fun a b ha hb => crop_crop W H ww hh P X Y u v a b (by omega) (by omega)
      have HAR2 : Hid (pw * ph ≤ 1048576) := Nat.le_trans (Nat.mul_le_mul w2'.2 h2'.2) (by omega)
      clear HI4 HI5
      go_wp2_with fail
      refine (crop_any bc gc (hh * stride ww) ww hh (cropPix W H P X Y) u v pw ph _ (HC9.out _ (Fr.refl _ _)) w2'.1 h2'.1 HAR2.out (by omega) (by omega)).mono ?_
      rintro e w11 ⟨be, ge, rfl, hn11⟩
      have HF11 : Hid (Fr (fun _ => False) w10 w11) := hn11.fr
      have HE11 : Hid (MapAt w11 be ge (ph * stride pw) pw ph (cropPix W H P (X + u) (Y + v))) := hn11.at_.pix HCC.out
      clear hn11 HCC
      go_wp2_with fail
      refine (crop_any ba ga ca W H P (X + u) (Y + v) pw ph _ (HM9.out _ HF11.out) w2'.1 h2'.1 HAR2.out (by omega) (by omega)).mono ?_
      rintro e w12 ⟨bf, gf, rfl, hn12⟩
      have HF12 : Hid (Fr (fun _ => False) w10 w12) := HF11.out.trans hn12.fr (fun _ _ hh => hh)
      have HE12 : Hid (MapAt w12 be ge (ph * stride pw) pw ph (cropPix W H P (X + u) (Y + v))) := HE11.out.kept hn12.fr (fun x => x) (fun x => x)
      have HG12 : Hid (MapAt w12 bf gf (ph * stride pw) pw ph (cropPix W H P (X + u) (Y + v))) := hn12.at_
      clear hn12 HF11 HE11
      go_wp2_with fail
      refine (plain_any bf gf (ph * stride pw) pw ph (cropPix W H P (X + u) (Y + v)) _ HG12.out).mono ?_
      rintro e w13 ⟨gq, cq, rfl, ho13, hf13, _⟩
      have hwl := HG12.out.words_le
      have HS13 : Hid (Seen w13 (.slice (some ⟨gq, 0, none⟩) (ph * stride pw) cq) (render pw ph (cropPix W H P (X + u) (Y + v)))) := by
        have := Seen.of_row (base := 0) (v := .slice (some ⟨gq, 0, none⟩) (ph * stride pw) cq) (l := render pw ph (cropPix W H P (X + u) (Y + v))) (w := w13) (by rw [length_render]; exact ho13) (by rw [length_render]; omega)
        exact this
      have HF13 : Hid (Fr (fun _ => False) w10 w13) := HF12.out.trans hf13 (fun _ _ hh => hh)
      have HE13 : Hid (MapAt w13 be ge (ph * stride pw) pw ph (cropPix W H P (X + u) (Y + v))) := HE12.out.kept hf13 (fun x => x) (fun x => x)
      clear ho13 hf13 HF12 HE12 HG12
      go_wp2_with fail
      refine (same_any be ge (ph * stride pw) pw ph (cropPix W H P (X + u) (Y + v)) pw ph _ (render pw ph (cropPix W H P (X + u) (Y + v))) _ HE13.out HS13.out).mono ?_
      rintro e w14 ⟨rfl, hf14⟩
      rw [HSB.out]
      have HF14 : Hid (Fr (fun _ => False) w10 w14) := HF13.out.trans hf14 (fun _ _ hh => hh)
      clear hf14 HF13 HE13 HS13 hwl hpw hph
      have HQ14 : Hid (∀ w', Fr (fun _ => False) w14 w' → (MapAt w' ba ga ca W H P ∧ MapAt w' bc gc (hh * stride ww) ww hh (cropPix W H P X Y)) ∧ Fr (fun _ => False) w w' ∧ Fr (fun _ => False) (w.alloc (.cells #[.int .i64 W, .int .i64 H, .slice ao n cap, .int .i64 x2, .int .i64 y2, .slice ao2 m2 c2, .int .i64 n0, .int .i64 n1, .int .i64 n2, .int .i64 n3, .int .i64 n4, .int .i64 n5, .int .i64 n6, .int .i64 n7] 40)) w') := fun w' hf => by
        have := HF14.out.trans hf (fun _ _ hh => hh)
        exact ⟨⟨HM9.out w' this, HC9.out w' this⟩, HX9.out w' this⟩
      clear HF14 HM9 HC9 HX9 k0 k1 k2 m0 m1 m2' m3 m4 m5 m6 m7
      have HZG : Hid (∀ (i j : Int) (w' : World), Fr (fun _ => False) w w' → Calls Try.prog 20 #[.agg #[.int .i64 W, .int .i64 H, .slice ao n cap], .int .i64 i, .int .i64 j] w' fun e w'' => e = .returned (.int .i64 ((getPix W H P i j).toNat : Nat)) ∧ Fr (fun _ => False) w' w'') := fun i j w' hf => zget_any W H _ P i j w' (HVR.out w' hf) HSZ.out.1 HSZ.out.2.1 HSZ.out.2.2
      obtain ⟨f, hf⟩ : ∃ f : Nat → Nat → Nat, f = fun y x => (cropPix W H P X Y x y).toNat := ⟨_, rfl⟩
      have HFE : Hid (∀ a b, f b a = (getPix W H P (X + (a : Int)) (Y + (b : Int))).toNat) := fun a b => by rw [hf]; rfl
      have HFC : Hid (sumTo (fun y => sumTo (f y) ww) hh = pops (render ww hh (cropPix W H P X Y))) := by show _ = _; rw [pops_render, hf]; rfl
      have HFB : Hid (∀ k m, k ≤ hh → m ≤ ww → sumTo (fun y => sumTo (f y) ww) k + sumTo (f k) m ≤ 100000) := fun k m hk hm => by
        have e1 : ∀ b, ∀ a, a < ww → f b a ≤ 1 := fun b a _ => by rw [HFE.out a b]; cases getPix W H P (X + (a : Int)) (Y + (b : Int)) <;> simp
        have e2 : ∀ b, sumTo (f b) ww ≤ ww := fun b => by have := sumTo_le (n := ww) (g := fun _ => 1) (e1 b); rw [sumTo_const] at this; omega
        have e3 := sumTo_le (n := k) (f := fun y => sumTo (f y) ww) (g := fun _ => ww) (fun b _ => e2 b)
        rw [sumTo_const] at e3
        have e4 := Nat.le_trans (sumTo_mono (f k) hm) (e2 k)
        have e5 : k * ww ≤ 30 * 150 := Nat.mul_le_mul (by omega) w1'.2
        omega
      clear hf
      go_wp2_with fail
      go_loopw [16, 17, 18] (fun s j _ wr => ∃ k : Nat, k ≤ hh ∧ s = .int .i64 (sumTo (fun y => sumTo (f y) ww) k : Nat) ∧ j = .int .i64 k ∧ Fr (fun _ => False) w14 wr) (fun _ j _ _ => hh - (intOf j).toNat)
      case atStart => exact ⟨0, Nat.zero_le _, rfl, rfl, Fr.refl _ _⟩
      case round =>
        obtain ⟨k, hk, rfl, rfl, hfr⟩ := hrel
        have HFr : Hid (Fr (fun _ => False) w14 wr) := hfr
        clear hfr
        by_cases hlt : k < hh
        · go_wp2_with fail
          go_loopw [16, 18] (fun s i wi => ∃ m : Nat, m ≤ ww ∧ s = .int .i64 (sumTo (fun y => sumTo (f y) ww) k + sumTo (f k) m : Nat) ∧ i = .int .i64 m ∧ Fr (fun _ => False) w14 wi) (fun _ i _ => ww - (intOf i).toNat)
          case atStart => exact ⟨0, Nat.zero_le _, rfl, rfl, HFr.out⟩
          case round =>
            obtain ⟨m, hm, rfl, rfl, hfi⟩ := hrel
            have HFi : Hid (Fr (fun _ => False) w14 wr) := hfi
            obtain ⟨⟨k0, k1, k2⟩, _⟩ := HBX.out wr (HQ14.out wr hfi).2.2
            clear hfi
            by_cases hmt : m < ww
            · have hb1 := HFB.out k m hk hm
              have hb2 := HFB.out k (m + 1) hk hmt
              have HST : Hid (sumTo (f k) (m + 1) = sumTo (f k) m + (getPix W H P (X + (m : Int)) (Y + (k : Int))).toNat) := by show _ = _; rw [← HFE.out m k]; rfl
              rw [HST.out] at hb2
              go_wp2_with fail
              refine (HZG.out _ _ _ (HQ14.out _ HFi.out).2.1).mono ?_
              rintro e w15 ⟨rfl, hf15⟩
              have HF15 : Hid (Fr (fun _ => False) w14 w15) := HFi.out.trans hf15 (fun _ _ hh => hh)
              clear hf15
              go_wp2_with fail
              go_roundw
              case rel => exact ⟨m + 1, by omega, congrArg (Value.int .i64) (by rw [HST.out]; omega), congrArg (Value.int .i64) (by omega), HF15.out⟩
              case measure => simp [intOf]; omega
            · have hmn : m = ww := by omega
              subst hmn
              go_wp2_with fail
              go_roundw
              case rel => exact ⟨k + 1, by omega, rfl, congrArg (Value.int .i64) (by omega), HFi.out⟩
              case measure => simp [intOf]; omega
        · have hkn : k = hh := by omega
          subst hkn
          go_wp2_with fail
          refine (count_any bc gc (k * stride ww) ww k (cropPix W H P X Y) _ (HQ14.out _ HFr.out).1.2).mono ?_
          rintro e w16 ⟨rfl, q16, rfl⟩
          rw [← HFC.out]
          have HF16 : Hid (Fr (fun _ => False) w14 (wr.drewN q16)) := HFr.out.drewN q16
          obtain ⟨⟨k0, k1, k2⟩, _⟩ := HBX.out _ (HQ14.out _ HF16.out).2.2
          have hee : (((sumTo (fun y => sumTo (f y) ww) k : Nat) : Int) == ((sumTo (fun y => sumTo (f y) ww) k : Nat) : Int)) = true := by simp
          go_wp2_with fail
          refine (same_any ba ga ca W H P W H _ (render W H P) _ (HQ14.out _ HF16.out).1.1 (HVR.out _ (HQ14.out _ HF16.out).2.1)).mono ?_
          rintro e w17 ⟨rfl, hf17⟩
          rw [HSB.out]
          have HF17 : Hid (Fr (fun _ => False) w14 w17) := HF16.out.trans hf17 (fun _ _ hh => hh)
          clear hf17
          go_wp2_with fail
          refine (wakes_any _).mono ?_
          rintro e w18 ⟨rfl, hf18⟩
          have HF18 : Hid (Fr (fun _ => False) w w18) := (HQ14.out _ HF17.out).2.1.trans hf18 (fun _ _ hh => hh)
          clear hf18
          go_wp2_with fail
          go_ret
          exact ⟨rfl, HF18.out⟩

end Go.Proofs.Ytcopbjinnegfoaa
