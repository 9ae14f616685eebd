/- 'BitmapTurns' returns true. -/
import Derived.Test.YtcopbjinnegfoabDoorTurnM
import Derived.Test.YtcopbjinnegfoabDoorInvert
import Derived.Test.YtcopbjinnegfoabDoorSmallish
import Derived.Test.YtcopbjinnegfoabDoorSame
import Derived.Test.YtcopbjinnegfoabDoorMay
import Derived.Test.YtcopbjinnegfoabDoorFrom
import Derived.Test.YtcopbjinnegfoabDoorWakes
import Derived.Test.YtcopbjinnegfoabDoorZGet
import Derived.Deep.RegionHeld3
namespace Go.Proofs.YtcopbjinnegfoabDoor
open Go.RowKit

theorem render_ltD (W H : Nat) (P : Nat → Nat → Bool) (j : Nat) : (render W H P)[j]?.getD 0 < 18446744073709551616 := by
  by_cases h : j < H * stride W
  · rw [render_get' P h]; exact wd_lt _ _ _ _
  · rw [List.getElem?_eq_none (by rw [length_render]; omega)]; simp
theorem render_rowOK (W H : Nat) (P : Nat → Nat → Bool) (hW : 1 ≤ W) (j : Nat) (hj : j < H) : rowOK W (render W H P) j := by
  have hS : 0 < stride W := by unfold stride; omega
  unfold rowOK
  have e : (j + 1) * stride W - 1 = j * stride W + (stride W - 1) := by rw [Nat.add_mul, Nat.one_mul]; omega
  rw [e, render_get P hj (by omega), Option.getD_some]
  apply Nat.eq_of_testBit_eq
  intro i
  rw [Nat.testBit_mod_two_pow, Nat.zero_testBit]
  have hs : W ≤ 64 * stride W ∧ 64 * stride W < W + 64 := by unfold stride; omega
  by_cases hi : i < 64 * stride W - W
  · have h63 : i = 63 - (63 - i) := by omega
    unfold wd
    rw [h63, bit_wordOf _ _ (by omega), decide_eq_false (show ¬ (64 * (stride W - 1) + (63 - i) < W) by omega)]
    simp
  · rw [decide_eq_false hi]; rfl
theorem render_valid (W H : Nat) (Q : Nat → Nat → Bool) (h1 : 1 ≤ W) (h2 : 1 ≤ H) (h3 : W * H ≤ 1048576) : validB (W : Int) (H : Int) (render W H Q) = true := by
  have hs : sizeOK (W : Int) (H : Int) = true := by
    unfold sizeOK
    refine decide_eq_true ⟨by omega, by omega, ?_⟩
    rw [← Int.natCast_mul]; omega
  rw [validB_nat W H _ hs, decide_eq_true (length_render W H Q), Bool.true_and]
  exact decide_eq_true (fun j hj => render_rowOK W H Q h1 j hj)

set_option maxRecDepth 100000 in
set_option maxHeartbeats 8000000 in
theorem turns_any (x y : Int) (v : Value) (l : List Nat) (w : World) (hx : -9223372036854775808 ≤ x ∧ x ≤ 9223372036854775807) (hy : -9223372036854775808 ≤ y ∧ y ≤ 9223372036854775807) (hv : Seen w v l) (hlt : ∀ j : Nat, l[j]?.getD 0 < 18446744073709551616) (hT : Tab w) (h0 : 0 < w.heap.size) :
    Calls Tryd.prog 3 #[.agg #[.int .i64 x, .int .i64 y, v]] w fun e w' => e = .returned (.bool true) ∧ Fr (fun _ => False) w w' := by
  have HMY : Hid (∀ w', Fr (fun _ => False) w w' → Calls Tryd.prog 4 #[.agg #[.int .i64 x, .int .i64 y, v]] w' fun e w'' => e = .returned (.bool (validB x y l)) ∧ Fr (fun _ => False) w' w'') := fun w' hf => may_any x y v l w' hx hy (hv.kept hf) hlt
  have HV : Hid (Seen w v l) := hv
  have HLT : Hid (∀ j : Nat, l[j]?.getD 0 < 18446744073709551616) := hlt
  have HTB : Hid (∀ w', Fr (fun _ => False) w w' → Tab w' ∧ 0 < w'.heap.size) := fun w' hf => ⟨hT.kept hf h0 (fun x => x), Nat.lt_of_lt_of_le h0 hf.size⟩
  obtain ⟨ao, cap, hve, hll, _⟩ := hv
  clear hlt hT h0
  subst hve
  generalize l.length = n at *
  have HBX : Hid (∀ w' : World, Fr (fun _ => False) (w.alloc (.cells #[.int .i64 x, .int .i64 y, .slice ao n cap] 24)) w' → w'.cell? ⟨w.heap.size, 0, none⟩ = some (.int .i64 x) ∧ w'.cell? ⟨w.heap.size, 1, none⟩ = some (.int .i64 y) ∧ w'.cell? ⟨w.heap.size, 2, none⟩ = some (.slice ao n cap)) := fun w' hf => by
    have hB : w'.heap[w.heap.size]? = some (.cells #[.int .i64 x, .int .i64 y, .slice ao n cap] 24 (0, 0)) := by
      rw [hf.block _ (by simp) (fun hh => hh)]; exact heap_alloc_new _ _
    obtain ⟨c0, c1, c2, _⟩ := cell_of_three hB
    exact ⟨c0, c1, c2⟩
  go_enter Tryd.func3, Tryd.ntmps3
  go_wp2_with fail
  refine (HMY.out _ ((Fr.refl _ _).alloc _)).mono ?_
  rintro e w1 ⟨rfl, hf1⟩
  have HF1 : Hid (Fr (fun _ => False) (w.alloc (.cells #[.int .i64 x, .int .i64 y, .slice ao n cap] 24)) w1) := hf1
  have HW1 : Hid (Fr (fun _ => False) w w1) := ((Fr.refl _ _).alloc _).trans hf1 (fun _ _ hh => hh)
  obtain ⟨k0, k1, k2⟩ := HBX.out w1 hf1
  clear hf1
  rcases hvb : validB x y l with _ | _
  · go_wp2_with fail
    refine (wakes_any _).mono ?_
    rintro e w9 ⟨rfl, hf9⟩
    have HF9 : Hid (Fr (fun _ => False) w w9) := HW1.out.trans hf9 (fun _ _ hh => hh)
    clear hf9
    go_wp2_with fail
    go_ret
    exact ⟨rfl, HF9.out⟩
  · obtain ⟨W, H, rfl, rfl, h1, h2, h3, hl, hr⟩ := valid_parts hvb
    obtain ⟨f1, f2, f3⟩ := size_facts h1 h2 h3
    have HSZ : Hid (1 ≤ W ∧ 1 ≤ H ∧ W * H ≤ 1048576) := ⟨h1, h2, h3⟩
    have HFR : Hid (∀ w', Fr (fun _ => False) w w' → Calls Tryd.prog 7 #[.agg #[.int .i64 W, .int .i64 H, .slice ao n cap]] w' fun e w'' => ∃ b g cap, e = .returned (.tuple #[.pointer (some ⟨b, 0, none⟩), .int .i64 0]) ∧ NewMap w' w'' b g cap W H (pixOf W l)) := fun w' hf => from_yes W H _ l w' h1 h2 h3 (HV.out.kept hf) HLT.out hl hr
    have hrn : l = render W H (pixOf W l) := valid_render W H l h1 hl hr HLT.out
    have HVR : Hid (∀ w', Fr (fun _ => False) w w' → Seen w' (.slice ao n cap) (render W H (pixOf W l))) := fun w' hf => by rw [← hrn]; exact HV.out.kept hf
    clear hrn h1 h2 h3 hl hr hx hy hvb HMY HLT HV f3
    generalize pixOf W l = P at *
    go_wp2_with fail
    refine (small_any w1.heap.size 0 1 1 60000 _ (by omega) ?_).mono ?_
    · intro i hi
      obtain rfl : i = 0 := by omega
      refine ⟨ao, n, cap, ?_⟩
      have := heap_alloc_new w1 (.cells #[.int .i64 W, .int .i64 H, .slice ao n cap] 24)
      unfold World.cell?
      rw [this]; rfl
    rintro e w2 ⟨bb, rfl, q2, hw2⟩
    have HF2 : Hid (Fr (fun _ => False) (w.alloc (.cells #[.int .i64 W, .int .i64 H, .slice ao n cap] 24)) w2) := by rw [hw2]; exact (HF1.out.alloc _).drewN q2
    have HW2 : Hid (Fr (fun _ => False) w w2) := by rw [hw2]; exact (HW1.out.alloc _).drewN q2
    clear hw2 HF1 HW1 k0 k1 k2
    obtain ⟨k0, k1, k2⟩ := HBX.out w2 HF2.out
    cases bb
    · go_wp2_with fail
      refine (wakes_any _).mono ?_
      rintro e w9 ⟨rfl, hf9⟩
      have HF9 : Hid (Fr (fun _ => False) w w9) := HW2.out.trans hf9 (fun _ _ hh => hh)
      clear hf9
      go_wp2_with fail
      go_ret
      exact ⟨rfl, HF9.out⟩
    · go_wp2_with fail
      refine (HFR.out _ HW2.out).mono ?_
      rintro e w3 ⟨bm, gm, cm, rfl, hn3⟩
      have HM_m : Hid (∀ w', Fr (fun _ => False) w3 w' → MapAt w' bm gm cm W H P) := fun w' hf => hn3.at_.kept hf (fun x => x) (fun x => x)
      have HX : Hid (∀ w', Fr (fun _ => False) w3 w' → Fr (fun _ => False) (w.alloc (.cells #[.int .i64 W, .int .i64 H, .slice ao n cap] 24)) w') := fun w' hf => (HF2.out.trans hn3.fr (fun _ _ hh => hh)).trans hf (fun _ _ hh => hh)
      have HNM : Hid (w.heap.size + 1 ≤ gm) := by have a := hn3.ng; have b := HF2.out.size; simp at b; show _ ≤ _; omega
      clear hn3 HF2 HW2 k0 k1 k2 HFR
      go_wp2_with fail
      refine (mirror_any bm gm cm W H P _ (HM_m.out _ (Fr.refl _ _))).mono ?_
      rintro e wt1 ⟨bt1, gt1, rfl, hn⟩
      have HN_m : Hid (∀ w', Fr (fun _ => False) wt1 w' → MapAt w' bm gm cm W H P) := fun w' hf => HM_m.out w' (hn.fr.trans hf (fun _ _ hh => hh))
      have HXn : Hid (∀ w', Fr (fun _ => False) wt1 w' → Fr (fun _ => False) (w.alloc (.cells #[.int .i64 W, .int .i64 H, .slice ao n cap] 24)) w') := fun w' hf => HX.out w' (hn.fr.trans hf (fun _ _ hh => hh))
      have HN_new : Hid (∀ w', Fr (fun _ => False) wt1 w' → MapAt w' bt1 gt1 (H * stride W) W H (mirPix W P)) := fun w' hf => hn.at_.kept hf (fun x => x) (fun x => x)
      clear hn HX HM_m
      have HX : Hid (∀ w', Fr (fun _ => False) wt1 w' → Fr (fun _ => False) (w.alloc (.cells #[.int .i64 W, .int .i64 H, .slice ao n cap] 24)) w') := HXn.out
      have HM_m : Hid (∀ w', Fr (fun _ => False) wt1 w' → MapAt w' bm gm cm W H P) := HN_m.out
      have HM_a : Hid (∀ w', Fr (fun _ => False) wt1 w' → MapAt w' bt1 gt1 (H * stride W) W H (mirPix W P)) := HN_new.out
      clear HXn HN_new HN_m
      clear HM_a
      go_wp2_with fail
      refine (turn_any bm gm cm W H P _ (HM_m.out _ (Fr.refl _ _)) (HTB.out _ (((Fr.refl _ _).alloc _).trans (HX.out _ (Fr.refl _ _)) (fun _ _ hh => hh))).1 (HTB.out _ (((Fr.refl _ _).alloc _).trans (HX.out _ (Fr.refl _ _)) (fun _ _ hh => hh))).2).mono ?_
      rintro e wt2 ⟨bt2, gt2, rfl, hn⟩
      have HN_m : Hid (∀ w', Fr (fun _ => False) wt2 w' → MapAt w' bm gm cm W H P) := fun w' hf => HM_m.out w' (hn.fr.trans hf (fun _ _ hh => hh))
      have HXn : Hid (∀ w', Fr (fun _ => False) wt2 w' → Fr (fun _ => False) (w.alloc (.cells #[.int .i64 W, .int .i64 H, .slice ao n cap] 24)) w') := fun w' hf => HX.out w' (hn.fr.trans hf (fun _ _ hh => hh))
      have HN_new : Hid (∀ w', Fr (fun _ => False) wt2 w' → MapAt w' bt2 gt2 (W * stride H) H W (turnPix H P)) := fun w' hf => hn.at_.kept hf (fun x => x) (fun x => x)
      clear hn HX HM_m
      have HX : Hid (∀ w', Fr (fun _ => False) wt2 w' → Fr (fun _ => False) (w.alloc (.cells #[.int .i64 W, .int .i64 H, .slice ao n cap] 24)) w') := HXn.out
      have HM_m : Hid (∀ w', Fr (fun _ => False) wt2 w' → MapAt w' bm gm cm W H P) := HN_m.out
      have HM_a : Hid (∀ w', Fr (fun _ => False) wt2 w' → MapAt w' bt2 gt2 (W * stride H) H W (turnPix H P)) := HN_new.out
      clear HXn HN_new HN_m
      clear HM_a
      go_wp2_with fail
      refine (turn_any bm gm cm W H P _ (HM_m.out _ (Fr.refl _ _)) (HTB.out _ (((Fr.refl _ _).alloc _).trans (HX.out _ (Fr.refl _ _)) (fun _ _ hh => hh))).1 (HTB.out _ (((Fr.refl _ _).alloc _).trans (HX.out _ (Fr.refl _ _)) (fun _ _ hh => hh))).2).mono ?_
      rintro e wt3 ⟨bt3, gt3, rfl, hn⟩
      have HN_m : Hid (∀ w', Fr (fun _ => False) wt3 w' → MapAt w' bm gm cm W H P) := fun w' hf => HM_m.out w' (hn.fr.trans hf (fun _ _ hh => hh))
      have HXn : Hid (∀ w', Fr (fun _ => False) wt3 w' → Fr (fun _ => False) (w.alloc (.cells #[.int .i64 W, .int .i64 H, .slice ao n cap] 24)) w') := fun w' hf => HX.out w' (hn.fr.trans hf (fun _ _ hh => hh))
      have HN_new : Hid (∀ w', Fr (fun _ => False) wt3 w' → MapAt w' bt3 gt3 (W * stride H) H W (turnPix H P)) := fun w' hf => hn.at_.kept hf (fun x => x) (fun x => x)
      clear hn HX HM_m
      have HX : Hid (∀ w', Fr (fun _ => False) wt3 w' → Fr (fun _ => False) (w.alloc (.cells #[.int .i64 W, .int .i64 H, .slice ao n cap] 24)) w') := HXn.out
      have HM_m : Hid (∀ w', Fr (fun _ => False) wt3 w' → MapAt w' bm gm cm W H P) := HN_m.out
      have HM_t : Hid (∀ w', Fr (fun _ => False) wt3 w' → MapAt w' bt3 gt3 (W * stride H) H W (turnPix H P)) := HN_new.out
      clear HXn HN_new HN_m
      go_wp2_with fail
      refine (turn_any bt3 gt3 (W * stride H) H W (turnPix H P) _ (HM_t.out _ (Fr.refl _ _)) (HTB.out _ (((Fr.refl _ _).alloc _).trans (HX.out _ (Fr.refl _ _)) (fun _ _ hh => hh))).1 (HTB.out _ (((Fr.refl _ _).alloc _).trans (HX.out _ (Fr.refl _ _)) (fun _ _ hh => hh))).2).mono ?_
      rintro e wt4 ⟨bt4, gt4, rfl, hn⟩
      have HN_m : Hid (∀ w', Fr (fun _ => False) wt4 w' → MapAt w' bm gm cm W H P) := fun w' hf => HM_m.out w' (hn.fr.trans hf (fun _ _ hh => hh))
      have HN_t : Hid (∀ w', Fr (fun _ => False) wt4 w' → MapAt w' bt3 gt3 (W * stride H) H W (turnPix H P)) := fun w' hf => HM_t.out w' (hn.fr.trans hf (fun _ _ hh => hh))
      have HXn : Hid (∀ w', Fr (fun _ => False) wt4 w' → Fr (fun _ => False) (w.alloc (.cells #[.int .i64 W, .int .i64 H, .slice ao n cap] 24)) w') := fun w' hf => HX.out w' (hn.fr.trans hf (fun _ _ hh => hh))
      have HN_new : Hid (∀ w', Fr (fun _ => False) wt4 w' → MapAt w' bt4 gt4 (H * stride W) W H (turnPix W (turnPix H P))) := fun w' hf => hn.at_.kept hf (fun x => x) (fun x => x)
      clear hn HX HM_m HM_t
      have HX : Hid (∀ w', Fr (fun _ => False) wt4 w' → Fr (fun _ => False) (w.alloc (.cells #[.int .i64 W, .int .i64 H, .slice ao n cap] 24)) w') := HXn.out
      have HM_m : Hid (∀ w', Fr (fun _ => False) wt4 w' → MapAt w' bm gm cm W H P) := HN_m.out
      have HM_t : Hid (∀ w', Fr (fun _ => False) wt4 w' → MapAt w' bt3 gt3 (W * stride H) H W (turnPix H P)) := HN_t.out
      have HM_tt : Hid (∀ w', Fr (fun _ => False) wt4 w' → MapAt w' bt4 gt4 (H * stride W) W H (turnPix W (turnPix H P))) := HN_new.out
      clear HXn HN_new HN_m HN_t
      go_wp2_with fail
      refine (turn_any bt4 gt4 (H * stride W) W H (turnPix W (turnPix H P)) _ (HM_tt.out _ (Fr.refl _ _)) (HTB.out _ (((Fr.refl _ _).alloc _).trans (HX.out _ (Fr.refl _ _)) (fun _ _ hh => hh))).1 (HTB.out _ (((Fr.refl _ _).alloc _).trans (HX.out _ (Fr.refl _ _)) (fun _ _ hh => hh))).2).mono ?_
      rintro e wt5 ⟨bt5, gt5, rfl, hn⟩
      have HN_m : Hid (∀ w', Fr (fun _ => False) wt5 w' → MapAt w' bm gm cm W H P) := fun w' hf => HM_m.out w' (hn.fr.trans hf (fun _ _ hh => hh))
      have HN_t : Hid (∀ w', Fr (fun _ => False) wt5 w' → MapAt w' bt3 gt3 (W * stride H) H W (turnPix H P)) := fun w' hf => HM_t.out w' (hn.fr.trans hf (fun _ _ hh => hh))
      have HN_tt : Hid (∀ w', Fr (fun _ => False) wt5 w' → MapAt w' bt4 gt4 (H * stride W) W H (turnPix W (turnPix H P))) := fun w' hf => HM_tt.out w' (hn.fr.trans hf (fun _ _ hh => hh))
      have HXn : Hid (∀ w', Fr (fun _ => False) wt5 w' → Fr (fun _ => False) (w.alloc (.cells #[.int .i64 W, .int .i64 H, .slice ao n cap] 24)) w') := fun w' hf => HX.out w' (hn.fr.trans hf (fun _ _ hh => hh))
      have HN_new : Hid (∀ w', Fr (fun _ => False) wt5 w' → MapAt w' bt5 gt5 (W * stride H) H W (turnPix H (turnPix W (turnPix H P)))) := fun w' hf => hn.at_.kept hf (fun x => x) (fun x => x)
      clear hn HX HM_m HM_t HM_tt
      have HX : Hid (∀ w', Fr (fun _ => False) wt5 w' → Fr (fun _ => False) (w.alloc (.cells #[.int .i64 W, .int .i64 H, .slice ao n cap] 24)) w') := HXn.out
      have HM_m : Hid (∀ w', Fr (fun _ => False) wt5 w' → MapAt w' bm gm cm W H P) := HN_m.out
      have HM_t : Hid (∀ w', Fr (fun _ => False) wt5 w' → MapAt w' bt3 gt3 (W * stride H) H W (turnPix H P)) := HN_t.out
      have HM_tt : Hid (∀ w', Fr (fun _ => False) wt5 w' → MapAt w' bt4 gt4 (H * stride W) W H (turnPix W (turnPix H P))) := HN_tt.out
      have HM_a : Hid (∀ w', Fr (fun _ => False) wt5 w' → MapAt w' bt5 gt5 (W * stride H) H W (turnPix H (turnPix W (turnPix H P)))) := HN_new.out
      clear HXn HN_new HN_m HN_t HN_tt
      clear HM_a
      go_wp2_with fail
      refine (turn_any bt4 gt4 (H * stride W) W H (turnPix W (turnPix H P)) _ (HM_tt.out _ (Fr.refl _ _)) (HTB.out _ (((Fr.refl _ _).alloc _).trans (HX.out _ (Fr.refl _ _)) (fun _ _ hh => hh))).1 (HTB.out _ (((Fr.refl _ _).alloc _).trans (HX.out _ (Fr.refl _ _)) (fun _ _ hh => hh))).2).mono ?_
      rintro e wt6 ⟨bt6, gt6, rfl, hn⟩
      have HN_m : Hid (∀ w', Fr (fun _ => False) wt6 w' → MapAt w' bm gm cm W H P) := fun w' hf => HM_m.out w' (hn.fr.trans hf (fun _ _ hh => hh))
      have HN_t : Hid (∀ w', Fr (fun _ => False) wt6 w' → MapAt w' bt3 gt3 (W * stride H) H W (turnPix H P)) := fun w' hf => HM_t.out w' (hn.fr.trans hf (fun _ _ hh => hh))
      have HN_tt : Hid (∀ w', Fr (fun _ => False) wt6 w' → MapAt w' bt4 gt4 (H * stride W) W H (turnPix W (turnPix H P))) := fun w' hf => HM_tt.out w' (hn.fr.trans hf (fun _ _ hh => hh))
      have HXn : Hid (∀ w', Fr (fun _ => False) wt6 w' → Fr (fun _ => False) (w.alloc (.cells #[.int .i64 W, .int .i64 H, .slice ao n cap] 24)) w') := fun w' hf => HX.out w' (hn.fr.trans hf (fun _ _ hh => hh))
      have HN_new : Hid (∀ w', Fr (fun _ => False) wt6 w' → MapAt w' bt6 gt6 (W * stride H) H W (turnPix H (turnPix W (turnPix H P)))) := fun w' hf => hn.at_.kept hf (fun x => x) (fun x => x)
      clear hn HX HM_m HM_t HM_tt
      have HX : Hid (∀ w', Fr (fun _ => False) wt6 w' → Fr (fun _ => False) (w.alloc (.cells #[.int .i64 W, .int .i64 H, .slice ao n cap] 24)) w') := HXn.out
      have HM_m : Hid (∀ w', Fr (fun _ => False) wt6 w' → MapAt w' bm gm cm W H P) := HN_m.out
      have HM_t : Hid (∀ w', Fr (fun _ => False) wt6 w' → MapAt w' bt3 gt3 (W * stride H) H W (turnPix H P)) := HN_t.out
      have HM_tt : Hid (∀ w', Fr (fun _ => False) wt6 w' → MapAt w' bt4 gt4 (H * stride W) W H (turnPix W (turnPix H P))) := HN_tt.out
      have HM_a : Hid (∀ w', Fr (fun _ => False) wt6 w' → MapAt w' bt6 gt6 (W * stride H) H W (turnPix H (turnPix W (turnPix H P)))) := HN_new.out
      clear HXn HN_new HN_m HN_t HN_tt
      go_wp2_with fail
      refine (turn_any bt6 gt6 (W * stride H) H W (turnPix H (turnPix W (turnPix H P))) _ (HM_a.out _ (Fr.refl _ _)) (HTB.out _ (((Fr.refl _ _).alloc _).trans (HX.out _ (Fr.refl _ _)) (fun _ _ hh => hh))).1 (HTB.out _ (((Fr.refl _ _).alloc _).trans (HX.out _ (Fr.refl _ _)) (fun _ _ hh => hh))).2).mono ?_
      rintro e wt7 ⟨bt7, gt7, rfl, hn⟩
      have HN_m : Hid (∀ w', Fr (fun _ => False) wt7 w' → MapAt w' bm gm cm W H P) := fun w' hf => HM_m.out w' (hn.fr.trans hf (fun _ _ hh => hh))
      have HN_t : Hid (∀ w', Fr (fun _ => False) wt7 w' → MapAt w' bt3 gt3 (W * stride H) H W (turnPix H P)) := fun w' hf => HM_t.out w' (hn.fr.trans hf (fun _ _ hh => hh))
      have HN_tt : Hid (∀ w', Fr (fun _ => False) wt7 w' → MapAt w' bt4 gt4 (H * stride W) W H (turnPix W (turnPix H P))) := fun w' hf => HM_tt.out w' (hn.fr.trans hf (fun _ _ hh => hh))
      have HN_a : Hid (∀ w', Fr (fun _ => False) wt7 w' → MapAt w' bt6 gt6 (W * stride H) H W (turnPix H (turnPix W (turnPix H P)))) := fun w' hf => HM_a.out w' (hn.fr.trans hf (fun _ _ hh => hh))
      have HXn : Hid (∀ w', Fr (fun _ => False) wt7 w' → Fr (fun _ => False) (w.alloc (.cells #[.int .i64 W, .int .i64 H, .slice ao n cap] 24)) w') := fun w' hf => HX.out w' (hn.fr.trans hf (fun _ _ hh => hh))
      have HN_new : Hid (∀ w', Fr (fun _ => False) wt7 w' → MapAt w' bt7 gt7 (H * stride W) W H (turnPix W (turnPix H (turnPix W (turnPix H P))))) := fun w' hf => hn.at_.kept hf (fun x => x) (fun x => x)
      clear hn HX HM_m HM_t HM_tt HM_a
      have HX : Hid (∀ w', Fr (fun _ => False) wt7 w' → Fr (fun _ => False) (w.alloc (.cells #[.int .i64 W, .int .i64 H, .slice ao n cap] 24)) w') := HXn.out
      have HM_m : Hid (∀ w', Fr (fun _ => False) wt7 w' → MapAt w' bm gm cm W H P) := HN_m.out
      have HM_t : Hid (∀ w', Fr (fun _ => False) wt7 w' → MapAt w' bt3 gt3 (W * stride H) H W (turnPix H P)) := HN_t.out
      have HM_tt : Hid (∀ w', Fr (fun _ => False) wt7 w' → MapAt w' bt4 gt4 (H * stride W) W H (turnPix W (turnPix H P))) := HN_tt.out
      have HM_a : Hid (∀ w', Fr (fun _ => False) wt7 w' → MapAt w' bt6 gt6 (W * stride H) H W (turnPix H (turnPix W (turnPix H P)))) := HN_a.out
      have HM_b : Hid (∀ w', Fr (fun _ => False) wt7 w' → MapAt w' bt7 gt7 (H * stride W) W H (turnPix W (turnPix H (turnPix W (turnPix H P))))) := HN_new.out
      clear HXn HN_new HN_m HN_t HN_tt HN_a
      clear HM_a
      clear HM_b
      go_wp2_with fail
      refine (mirror_any bm gm cm W H P _ (HM_m.out _ (Fr.refl _ _))).mono ?_
      rintro e wt8 ⟨bt8, gt8, rfl, hn⟩
      have HN_m : Hid (∀ w', Fr (fun _ => False) wt8 w' → MapAt w' bm gm cm W H P) := fun w' hf => HM_m.out w' (hn.fr.trans hf (fun _ _ hh => hh))
      have HN_t : Hid (∀ w', Fr (fun _ => False) wt8 w' → MapAt w' bt3 gt3 (W * stride H) H W (turnPix H P)) := fun w' hf => HM_t.out w' (hn.fr.trans hf (fun _ _ hh => hh))
      have HN_tt : Hid (∀ w', Fr (fun _ => False) wt8 w' → MapAt w' bt4 gt4 (H * stride W) W H (turnPix W (turnPix H P))) := fun w' hf => HM_tt.out w' (hn.fr.trans hf (fun _ _ hh => hh))
      have HXn : Hid (∀ w', Fr (fun _ => False) wt8 w' → Fr (fun _ => False) (w.alloc (.cells #[.int .i64 W, .int .i64 H, .slice ao n cap] 24)) w') := fun w' hf => HX.out w' (hn.fr.trans hf (fun _ _ hh => hh))
      have HN_new : Hid (∀ w', Fr (fun _ => False) wt8 w' → MapAt w' bt8 gt8 (H * stride W) W H (mirPix W P)) := fun w' hf => hn.at_.kept hf (fun x => x) (fun x => x)
      clear hn HX HM_m HM_t HM_tt
      have HX : Hid (∀ w', Fr (fun _ => False) wt8 w' → Fr (fun _ => False) (w.alloc (.cells #[.int .i64 W, .int .i64 H, .slice ao n cap] 24)) w') := HXn.out
      have HM_m : Hid (∀ w', Fr (fun _ => False) wt8 w' → MapAt w' bm gm cm W H P) := HN_m.out
      have HM_t : Hid (∀ w', Fr (fun _ => False) wt8 w' → MapAt w' bt3 gt3 (W * stride H) H W (turnPix H P)) := HN_t.out
      have HM_tt : Hid (∀ w', Fr (fun _ => False) wt8 w' → MapAt w' bt4 gt4 (H * stride W) W H (turnPix W (turnPix H P))) := HN_tt.out
      have HM_a : Hid (∀ w', Fr (fun _ => False) wt8 w' → MapAt w' bt8 gt8 (H * stride W) W H (mirPix W P)) := HN_new.out
      clear HXn HN_new HN_m HN_t HN_tt
      go_wp2_with fail
      refine (mirror_any bt8 gt8 (H * stride W) W H (mirPix W P) _ (HM_a.out _ (Fr.refl _ _))).mono ?_
      rintro e wt9 ⟨bt9, gt9, rfl, hn⟩
      have HN_m : Hid (∀ w', Fr (fun _ => False) wt9 w' → MapAt w' bm gm cm W H P) := fun w' hf => HM_m.out w' (hn.fr.trans hf (fun _ _ hh => hh))
      have HN_t : Hid (∀ w', Fr (fun _ => False) wt9 w' → MapAt w' bt3 gt3 (W * stride H) H W (turnPix H P)) := fun w' hf => HM_t.out w' (hn.fr.trans hf (fun _ _ hh => hh))
      have HN_tt : Hid (∀ w', Fr (fun _ => False) wt9 w' → MapAt w' bt4 gt4 (H * stride W) W H (turnPix W (turnPix H P))) := fun w' hf => HM_tt.out w' (hn.fr.trans hf (fun _ _ hh => hh))
      have HN_a : Hid (∀ w', Fr (fun _ => False) wt9 w' → MapAt w' bt8 gt8 (H * stride W) W H (mirPix W P)) := fun w' hf => HM_a.out w' (hn.fr.trans hf (fun _ _ hh => hh))
      have HXn : Hid (∀ w', Fr (fun _ => False) wt9 w' → Fr (fun _ => False) (w.alloc (.cells #[.int .i64 W, .int .i64 H, .slice ao n cap] 24)) w') := fun w' hf => HX.out w' (hn.fr.trans hf (fun _ _ hh => hh))
      have HN_new : Hid (∀ w', Fr (fun _ => False) wt9 w' → MapAt w' bt9 gt9 (H * stride W) W H (mirPix W (mirPix W P))) := fun w' hf => hn.at_.kept hf (fun x => x) (fun x => x)
      clear hn HX HM_m HM_t HM_tt HM_a
      have HX : Hid (∀ w', Fr (fun _ => False) wt9 w' → Fr (fun _ => False) (w.alloc (.cells #[.int .i64 W, .int .i64 H, .slice ao n cap] 24)) w') := HXn.out
      have HM_m : Hid (∀ w', Fr (fun _ => False) wt9 w' → MapAt w' bm gm cm W H P) := HN_m.out
      have HM_t : Hid (∀ w', Fr (fun _ => False) wt9 w' → MapAt w' bt3 gt3 (W * stride H) H W (turnPix H P)) := HN_t.out
      have HM_tt : Hid (∀ w', Fr (fun _ => False) wt9 w' → MapAt w' bt4 gt4 (H * stride W) W H (turnPix W (turnPix H P))) := HN_tt.out
      have HM_a : Hid (∀ w', Fr (fun _ => False) wt9 w' → MapAt w' bt8 gt8 (H * stride W) W H (mirPix W P)) := HN_a.out
      have HM_b : Hid (∀ w', Fr (fun _ => False) wt9 w' → MapAt w' bt9 gt9 (H * stride W) W H (mirPix W (mirPix W P))) := HN_new.out
      clear HXn HN_new HN_m HN_t HN_tt HN_a
      clear HM_a
      clear HM_b
      go_wp2_with fail
      refine (mirror_any bt3 gt3 (W * stride H) H W (turnPix H P) _ (HM_t.out _ (Fr.refl _ _))).mono ?_
      rintro e wt10 ⟨bt10, gt10, rfl, hn⟩
      have HN_m : Hid (∀ w', Fr (fun _ => False) wt10 w' → MapAt w' bm gm cm W H P) := fun w' hf => HM_m.out w' (hn.fr.trans hf (fun _ _ hh => hh))
      have HN_t : Hid (∀ w', Fr (fun _ => False) wt10 w' → MapAt w' bt3 gt3 (W * stride H) H W (turnPix H P)) := fun w' hf => HM_t.out w' (hn.fr.trans hf (fun _ _ hh => hh))
      have HN_tt : Hid (∀ w', Fr (fun _ => False) wt10 w' → MapAt w' bt4 gt4 (H * stride W) W H (turnPix W (turnPix H P))) := fun w' hf => HM_tt.out w' (hn.fr.trans hf (fun _ _ hh => hh))
      have HXn : Hid (∀ w', Fr (fun _ => False) wt10 w' → Fr (fun _ => False) (w.alloc (.cells #[.int .i64 W, .int .i64 H, .slice ao n cap] 24)) w') := fun w' hf => HX.out w' (hn.fr.trans hf (fun _ _ hh => hh))
      have HN_new : Hid (∀ w', Fr (fun _ => False) wt10 w' → MapAt w' bt10 gt10 (W * stride H) H W (mirPix H (turnPix H P))) := fun w' hf => hn.at_.kept hf (fun x => x) (fun x => x)
      clear hn HX HM_m HM_t HM_tt
      have HX : Hid (∀ w', Fr (fun _ => False) wt10 w' → Fr (fun _ => False) (w.alloc (.cells #[.int .i64 W, .int .i64 H, .slice ao n cap] 24)) w') := HXn.out
      have HM_m : Hid (∀ w', Fr (fun _ => False) wt10 w' → MapAt w' bm gm cm W H P) := HN_m.out
      have HM_t : Hid (∀ w', Fr (fun _ => False) wt10 w' → MapAt w' bt3 gt3 (W * stride H) H W (turnPix H P)) := HN_t.out
      have HM_tt : Hid (∀ w', Fr (fun _ => False) wt10 w' → MapAt w' bt4 gt4 (H * stride W) W H (turnPix W (turnPix H P))) := HN_tt.out
      have HM_a : Hid (∀ w', Fr (fun _ => False) wt10 w' → MapAt w' bt10 gt10 (W * stride H) H W (mirPix H (turnPix H P))) := HN_new.out
      clear HXn HN_new HN_m HN_t HN_tt
      clear HM_a
      go_wp2_with fail
      refine (mirror_any bm gm cm W H P _ (HM_m.out _ (Fr.refl _ _))).mono ?_
      rintro e wt11 ⟨bt11, gt11, rfl, hn⟩
      have HN_m : Hid (∀ w', Fr (fun _ => False) wt11 w' → MapAt w' bm gm cm W H P) := fun w' hf => HM_m.out w' (hn.fr.trans hf (fun _ _ hh => hh))
      have HN_t : Hid (∀ w', Fr (fun _ => False) wt11 w' → MapAt w' bt3 gt3 (W * stride H) H W (turnPix H P)) := fun w' hf => HM_t.out w' (hn.fr.trans hf (fun _ _ hh => hh))
      have HN_tt : Hid (∀ w', Fr (fun _ => False) wt11 w' → MapAt w' bt4 gt4 (H * stride W) W H (turnPix W (turnPix H P))) := fun w' hf => HM_tt.out w' (hn.fr.trans hf (fun _ _ hh => hh))
      have HXn : Hid (∀ w', Fr (fun _ => False) wt11 w' → Fr (fun _ => False) (w.alloc (.cells #[.int .i64 W, .int .i64 H, .slice ao n cap] 24)) w') := fun w' hf => HX.out w' (hn.fr.trans hf (fun _ _ hh => hh))
      have HN_new : Hid (∀ w', Fr (fun _ => False) wt11 w' → MapAt w' bt11 gt11 (H * stride W) W H (mirPix W P)) := fun w' hf => hn.at_.kept hf (fun x => x) (fun x => x)
      clear hn HX HM_m HM_t HM_tt
      have HX : Hid (∀ w', Fr (fun _ => False) wt11 w' → Fr (fun _ => False) (w.alloc (.cells #[.int .i64 W, .int .i64 H, .slice ao n cap] 24)) w') := HXn.out
      have HM_m : Hid (∀ w', Fr (fun _ => False) wt11 w' → MapAt w' bm gm cm W H P) := HN_m.out
      have HM_t : Hid (∀ w', Fr (fun _ => False) wt11 w' → MapAt w' bt3 gt3 (W * stride H) H W (turnPix H P)) := HN_t.out
      have HM_tt : Hid (∀ w', Fr (fun _ => False) wt11 w' → MapAt w' bt4 gt4 (H * stride W) W H (turnPix W (turnPix H P))) := HN_tt.out
      have HM_a : Hid (∀ w', Fr (fun _ => False) wt11 w' → MapAt w' bt11 gt11 (H * stride W) W H (mirPix W P)) := HN_new.out
      clear HXn HN_new HN_m HN_t HN_tt
      go_wp2_with fail
      refine (turn_any bt11 gt11 (H * stride W) W H (mirPix W P) _ (HM_a.out _ (Fr.refl _ _)) (HTB.out _ (((Fr.refl _ _).alloc _).trans (HX.out _ (Fr.refl _ _)) (fun _ _ hh => hh))).1 (HTB.out _ (((Fr.refl _ _).alloc _).trans (HX.out _ (Fr.refl _ _)) (fun _ _ hh => hh))).2).mono ?_
      rintro e wt12 ⟨bt12, gt12, rfl, hn⟩
      have HN_m : Hid (∀ w', Fr (fun _ => False) wt12 w' → MapAt w' bm gm cm W H P) := fun w' hf => HM_m.out w' (hn.fr.trans hf (fun _ _ hh => hh))
      have HN_t : Hid (∀ w', Fr (fun _ => False) wt12 w' → MapAt w' bt3 gt3 (W * stride H) H W (turnPix H P)) := fun w' hf => HM_t.out w' (hn.fr.trans hf (fun _ _ hh => hh))
      have HN_tt : Hid (∀ w', Fr (fun _ => False) wt12 w' → MapAt w' bt4 gt4 (H * stride W) W H (turnPix W (turnPix H P))) := fun w' hf => HM_tt.out w' (hn.fr.trans hf (fun _ _ hh => hh))
      have HN_a : Hid (∀ w', Fr (fun _ => False) wt12 w' → MapAt w' bt11 gt11 (H * stride W) W H (mirPix W P)) := fun w' hf => HM_a.out w' (hn.fr.trans hf (fun _ _ hh => hh))
      have HXn : Hid (∀ w', Fr (fun _ => False) wt12 w' → Fr (fun _ => False) (w.alloc (.cells #[.int .i64 W, .int .i64 H, .slice ao n cap] 24)) w') := fun w' hf => HX.out w' (hn.fr.trans hf (fun _ _ hh => hh))
      have HN_new : Hid (∀ w', Fr (fun _ => False) wt12 w' → MapAt w' bt12 gt12 (W * stride H) H W (turnPix H (mirPix W P))) := fun w' hf => hn.at_.kept hf (fun x => x) (fun x => x)
      clear hn HX HM_m HM_t HM_tt HM_a
      have HX : Hid (∀ w', Fr (fun _ => False) wt12 w' → Fr (fun _ => False) (w.alloc (.cells #[.int .i64 W, .int .i64 H, .slice ao n cap] 24)) w') := HXn.out
      have HM_m : Hid (∀ w', Fr (fun _ => False) wt12 w' → MapAt w' bm gm cm W H P) := HN_m.out
      have HM_t : Hid (∀ w', Fr (fun _ => False) wt12 w' → MapAt w' bt3 gt3 (W * stride H) H W (turnPix H P)) := HN_t.out
      have HM_tt : Hid (∀ w', Fr (fun _ => False) wt12 w' → MapAt w' bt4 gt4 (H * stride W) W H (turnPix W (turnPix H P))) := HN_tt.out
      have HM_a : Hid (∀ w', Fr (fun _ => False) wt12 w' → MapAt w' bt11 gt11 (H * stride W) W H (mirPix W P)) := HN_a.out
      have HM_x : Hid (∀ w', Fr (fun _ => False) wt12 w' → MapAt w' bt12 gt12 (W * stride H) H W (turnPix H (mirPix W P))) := HN_new.out
      clear HXn HN_new HN_m HN_t HN_tt HN_a
      clear HM_a
      go_wp2_with fail
      refine (turn_any bt12 gt12 (W * stride H) H W (turnPix H (mirPix W P)) _ (HM_x.out _ (Fr.refl _ _)) (HTB.out _ (((Fr.refl _ _).alloc _).trans (HX.out _ (Fr.refl _ _)) (fun _ _ hh => hh))).1 (HTB.out _ (((Fr.refl _ _).alloc _).trans (HX.out _ (Fr.refl _ _)) (fun _ _ hh => hh))).2).mono ?_
      rintro e wt13 ⟨bt13, gt13, rfl, hn⟩
      have HN_m : Hid (∀ w', Fr (fun _ => False) wt13 w' → MapAt w' bm gm cm W H P) := fun w' hf => HM_m.out w' (hn.fr.trans hf (fun _ _ hh => hh))
      have HN_t : Hid (∀ w', Fr (fun _ => False) wt13 w' → MapAt w' bt3 gt3 (W * stride H) H W (turnPix H P)) := fun w' hf => HM_t.out w' (hn.fr.trans hf (fun _ _ hh => hh))
      have HN_tt : Hid (∀ w', Fr (fun _ => False) wt13 w' → MapAt w' bt4 gt4 (H * stride W) W H (turnPix W (turnPix H P))) := fun w' hf => HM_tt.out w' (hn.fr.trans hf (fun _ _ hh => hh))
      have HN_x : Hid (∀ w', Fr (fun _ => False) wt13 w' → MapAt w' bt12 gt12 (W * stride H) H W (turnPix H (mirPix W P))) := fun w' hf => HM_x.out w' (hn.fr.trans hf (fun _ _ hh => hh))
      have HXn : Hid (∀ w', Fr (fun _ => False) wt13 w' → Fr (fun _ => False) (w.alloc (.cells #[.int .i64 W, .int .i64 H, .slice ao n cap] 24)) w') := fun w' hf => HX.out w' (hn.fr.trans hf (fun _ _ hh => hh))
      have HN_new : Hid (∀ w', Fr (fun _ => False) wt13 w' → MapAt w' bt13 gt13 (H * stride W) W H (turnPix W (turnPix H (mirPix W P)))) := fun w' hf => hn.at_.kept hf (fun x => x) (fun x => x)
      clear hn HX HM_m HM_t HM_tt HM_x
      have HX : Hid (∀ w', Fr (fun _ => False) wt13 w' → Fr (fun _ => False) (w.alloc (.cells #[.int .i64 W, .int .i64 H, .slice ao n cap] 24)) w') := HXn.out
      have HM_m : Hid (∀ w', Fr (fun _ => False) wt13 w' → MapAt w' bm gm cm W H P) := HN_m.out
      have HM_t : Hid (∀ w', Fr (fun _ => False) wt13 w' → MapAt w' bt3 gt3 (W * stride H) H W (turnPix H P)) := HN_t.out
      have HM_tt : Hid (∀ w', Fr (fun _ => False) wt13 w' → MapAt w' bt4 gt4 (H * stride W) W H (turnPix W (turnPix H P))) := HN_tt.out
      have HM_x : Hid (∀ w', Fr (fun _ => False) wt13 w' → MapAt w' bt12 gt12 (W * stride H) H W (turnPix H (mirPix W P))) := HN_x.out
      have HM_a : Hid (∀ w', Fr (fun _ => False) wt13 w' → MapAt w' bt13 gt13 (H * stride W) W H (turnPix W (turnPix H (mirPix W P)))) := HN_new.out
      clear HXn HN_new HN_m HN_t HN_tt HN_x
      clear HM_a
      go_wp2_with fail
      refine (turn_any bt12 gt12 (W * stride H) H W (turnPix H (mirPix W P)) _ (HM_x.out _ (Fr.refl _ _)) (HTB.out _ (((Fr.refl _ _).alloc _).trans (HX.out _ (Fr.refl _ _)) (fun _ _ hh => hh))).1 (HTB.out _ (((Fr.refl _ _).alloc _).trans (HX.out _ (Fr.refl _ _)) (fun _ _ hh => hh))).2).mono ?_
      rintro e wt14 ⟨bt14, gt14, rfl, hn⟩
      have HN_m : Hid (∀ w', Fr (fun _ => False) wt14 w' → MapAt w' bm gm cm W H P) := fun w' hf => HM_m.out w' (hn.fr.trans hf (fun _ _ hh => hh))
      have HN_t : Hid (∀ w', Fr (fun _ => False) wt14 w' → MapAt w' bt3 gt3 (W * stride H) H W (turnPix H P)) := fun w' hf => HM_t.out w' (hn.fr.trans hf (fun _ _ hh => hh))
      have HN_tt : Hid (∀ w', Fr (fun _ => False) wt14 w' → MapAt w' bt4 gt4 (H * stride W) W H (turnPix W (turnPix H P))) := fun w' hf => HM_tt.out w' (hn.fr.trans hf (fun _ _ hh => hh))
      have HN_x : Hid (∀ w', Fr (fun _ => False) wt14 w' → MapAt w' bt12 gt12 (W * stride H) H W (turnPix H (mirPix W P))) := fun w' hf => HM_x.out w' (hn.fr.trans hf (fun _ _ hh => hh))
      have HXn : Hid (∀ w', Fr (fun _ => False) wt14 w' → Fr (fun _ => False) (w.alloc (.cells #[.int .i64 W, .int .i64 H, .slice ao n cap] 24)) w') := fun w' hf => HX.out w' (hn.fr.trans hf (fun _ _ hh => hh))
      have HN_new : Hid (∀ w', Fr (fun _ => False) wt14 w' → MapAt w' bt14 gt14 (H * stride W) W H (turnPix W (turnPix H (mirPix W P)))) := fun w' hf => hn.at_.kept hf (fun x => x) (fun x => x)
      clear hn HX HM_m HM_t HM_tt HM_x
      have HX : Hid (∀ w', Fr (fun _ => False) wt14 w' → Fr (fun _ => False) (w.alloc (.cells #[.int .i64 W, .int .i64 H, .slice ao n cap] 24)) w') := HXn.out
      have HM_m : Hid (∀ w', Fr (fun _ => False) wt14 w' → MapAt w' bm gm cm W H P) := HN_m.out
      have HM_t : Hid (∀ w', Fr (fun _ => False) wt14 w' → MapAt w' bt3 gt3 (W * stride H) H W (turnPix H P)) := HN_t.out
      have HM_tt : Hid (∀ w', Fr (fun _ => False) wt14 w' → MapAt w' bt4 gt4 (H * stride W) W H (turnPix W (turnPix H P))) := HN_tt.out
      have HM_x : Hid (∀ w', Fr (fun _ => False) wt14 w' → MapAt w' bt12 gt12 (W * stride H) H W (turnPix H (mirPix W P))) := HN_x.out
      have HM_a : Hid (∀ w', Fr (fun _ => False) wt14 w' → MapAt w' bt14 gt14 (H * stride W) W H (turnPix W (turnPix H (mirPix W P)))) := HN_new.out
      clear HXn HN_new HN_m HN_t HN_tt HN_x
      go_wp2_with fail
      refine (turn_any bt14 gt14 (H * stride W) W H (turnPix W (turnPix H (mirPix W P))) _ (HM_a.out _ (Fr.refl _ _)) (HTB.out _ (((Fr.refl _ _).alloc _).trans (HX.out _ (Fr.refl _ _)) (fun _ _ hh => hh))).1 (HTB.out _ (((Fr.refl _ _).alloc _).trans (HX.out _ (Fr.refl _ _)) (fun _ _ hh => hh))).2).mono ?_
      rintro e wt15 ⟨bt15, gt15, rfl, hn⟩
      have HN_m : Hid (∀ w', Fr (fun _ => False) wt15 w' → MapAt w' bm gm cm W H P) := fun w' hf => HM_m.out w' (hn.fr.trans hf (fun _ _ hh => hh))
      have HN_t : Hid (∀ w', Fr (fun _ => False) wt15 w' → MapAt w' bt3 gt3 (W * stride H) H W (turnPix H P)) := fun w' hf => HM_t.out w' (hn.fr.trans hf (fun _ _ hh => hh))
      have HN_tt : Hid (∀ w', Fr (fun _ => False) wt15 w' → MapAt w' bt4 gt4 (H * stride W) W H (turnPix W (turnPix H P))) := fun w' hf => HM_tt.out w' (hn.fr.trans hf (fun _ _ hh => hh))
      have HN_x : Hid (∀ w', Fr (fun _ => False) wt15 w' → MapAt w' bt12 gt12 (W * stride H) H W (turnPix H (mirPix W P))) := fun w' hf => HM_x.out w' (hn.fr.trans hf (fun _ _ hh => hh))
      have HN_a : Hid (∀ w', Fr (fun _ => False) wt15 w' → MapAt w' bt14 gt14 (H * stride W) W H (turnPix W (turnPix H (mirPix W P)))) := fun w' hf => HM_a.out w' (hn.fr.trans hf (fun _ _ hh => hh))
      have HXn : Hid (∀ w', Fr (fun _ => False) wt15 w' → Fr (fun _ => False) (w.alloc (.cells #[.int .i64 W, .int .i64 H, .slice ao n cap] 24)) w') := fun w' hf => HX.out w' (hn.fr.trans hf (fun _ _ hh => hh))
      have HN_new : Hid (∀ w', Fr (fun _ => False) wt15 w' → MapAt w' bt15 gt15 (W * stride H) H W (turnPix H (turnPix W (turnPix H (mirPix W P))))) := fun w' hf => hn.at_.kept hf (fun x => x) (fun x => x)
      clear hn HX HM_m HM_t HM_tt HM_x HM_a
      have HX : Hid (∀ w', Fr (fun _ => False) wt15 w' → Fr (fun _ => False) (w.alloc (.cells #[.int .i64 W, .int .i64 H, .slice ao n cap] 24)) w') := HXn.out
      have HM_m : Hid (∀ w', Fr (fun _ => False) wt15 w' → MapAt w' bm gm cm W H P) := HN_m.out
      have HM_t : Hid (∀ w', Fr (fun _ => False) wt15 w' → MapAt w' bt3 gt3 (W * stride H) H W (turnPix H P)) := HN_t.out
      have HM_tt : Hid (∀ w', Fr (fun _ => False) wt15 w' → MapAt w' bt4 gt4 (H * stride W) W H (turnPix W (turnPix H P))) := HN_tt.out
      have HM_x : Hid (∀ w', Fr (fun _ => False) wt15 w' → MapAt w' bt12 gt12 (W * stride H) H W (turnPix H (mirPix W P))) := HN_x.out
      have HM_a : Hid (∀ w', Fr (fun _ => False) wt15 w' → MapAt w' bt14 gt14 (H * stride W) W H (turnPix W (turnPix H (mirPix W P)))) := HN_a.out
      have HM_b : Hid (∀ w', Fr (fun _ => False) wt15 w' → MapAt w' bt15 gt15 (W * stride H) H W (turnPix H (turnPix W (turnPix H (mirPix W P))))) := HN_new.out
      clear HXn HN_new HN_m HN_t HN_tt HN_x HN_a
      clear HM_a
      clear HM_b
      go_wp2_with fail
      refine (count_any bm gm cm W H P _ (HM_m.out _ (Fr.refl _ _))).mono ?_
      rintro e wk ⟨rfl, qk, rfl⟩
      have HM_mk : Hid (∀ w', Fr (fun _ => False) (wt15.drewN qk) w' → (MapAt w' bm gm cm W H P ∧ MapAt w' bt3 gt3 (W * stride H) H W (turnPix H P) ∧ MapAt w' bt4 gt4 (H * stride W) W H (turnPix W (turnPix H P)) ∧ MapAt w' bt12 gt12 (W * stride H) H W (turnPix H (mirPix W P))) ∧ Fr (fun _ => False) (w.alloc (.cells #[.int .i64 W, .int .i64 H, .slice ao n cap] 24)) w') := fun w' hf => by
        have h := (((Fr.refl (fun _ => False) _).drewN qk).trans hf (fun _ _ hh => hh))
        exact ⟨⟨HM_m.out w' h, HM_t.out w' h, HM_tt.out w' h, HM_x.out w' h⟩, HX.out w' h⟩
      clear HM_m HM_t HM_tt HM_x HX
      generalize wt15.drewN qk = wk at *
      obtain ⟨N, hN⟩ : ∃ N, N = pops (render W H P) := ⟨_, rfl⟩
      rw [← hN]
      have HNE : Hid (N = cnt W H P) := by show _ = _; rw [hN, pops_render]
      clear hN
      have hNN : ((N : Int) != (N : Int)) = false := by simp
      have HWW : Hid (∀ w', Fr (fun _ => False) wk w' → Fr (fun _ => False) w w') := fun w' hf => ((Fr.refl _ _).alloc _).trans (HM_mk.out w' hf).2 (fun _ _ hh => hh)
      have HSA : Hid (∀ (b g c : Nat) (Q : Nat → Nat → Bool) w', Fr (fun _ => False) wk w' → MapAt w' b g c W H Q → (∀ x y, x < W → y < H → Q x y = P x y) → Calls Tryd.prog 11 #[.pointer (some ⟨b, 0, none⟩), .agg #[.int .i64 W, .int .i64 H, .slice ao n cap]] w' fun e w'' => e = .returned (.bool true) ∧ Fr (fun _ => False) w' w'') := fun b g c Q w' hf hm hq => by
        have := same_any b g c W H Q W H _ (render W H P) w' hm (HVR.out w' (HWW.out w' hf))
        have hsb : sameB W H Q W H (render W H P) = true := by unfold sameB eqB; rw [render_congr hq]; simp
        rw [hsb] at this
        exact this
      have HTU : Hid (∀ (b g c W' H' : Nat) (Q : Nat → Nat → Bool) w', Fr (fun _ => False) wk w' → MapAt w' b g c W' H' Q → Calls Tryd.prog 9 #[.pointer (some ⟨b, 0, none⟩)] w' fun e w'' => ∃ b2 g2, e = .returned (.pointer (some ⟨b2, 0, none⟩)) ∧ NewMap w' w'' b2 g2 (W' * stride H') H' W' (turnPix H' Q)) := fun b g c W' H' Q w' hf hm => turn_any b g c W' H' Q w' hm (HTB.out w' (HWW.out w' hf)).1 (HTB.out w' (HWW.out w' hf)).2
      have HEQ : Hid (∀ (gp cp gq cq : Nat) w', w'.ownsRow 0 42 1 (.slice (some ⟨gp, 0, none⟩) (W * stride H) cp) (W * stride H) (wordCells (render H W (mirPix H (turnPix H P)))) → w'.ownsRow 0 42 1 (.slice (some ⟨gq, 0, none⟩) (W * stride H) cq) (W * stride H) (wordCells (render H W (turnPix H (turnPix W (turnPix H (mirPix W P)))))) → Calls Tryd.prog 12 #[.agg #[.int .i64 H, .int .i64 W, .slice (some ⟨gp, 0, none⟩) (W * stride H) cp], .agg #[.int .i64 H, .int .i64 W, .slice (some ⟨gq, 0, none⟩) (W * stride H) cq]] w' fun e w'' => e = .returned (.bool true) ∧ Fr (fun _ => False) w' w'') := fun gp cp gq cq w' h1 h2 => by
        obtain ⟨s1, s2, s3⟩ := HSZ.out
        have hwl := (size_facts s2 s1 (by rw [Nat.mul_comm]; exact s3)).2.2
        rw [← render_congr (W := H) (H := W) (mir_turn W H P)] at h2
        have a1 := Seen.of_row (base := 0) (w := w') (v := .slice (some ⟨gp, 0, none⟩) (W * stride H) cp) (l := render H W (mirPix H (turnPix H P))) (by rw [length_render]; exact h1) (by rw [length_render]; omega)
        have a2 := Seen.of_row (base := 0) (w := w') (v := .slice (some ⟨gq, 0, none⟩) (W * stride H) cq) (l := render H W (mirPix H (turnPix H P))) (by rw [length_render]; exact h2) (by rw [length_render]; omega)
        exact eqBitmap_same H W _ _ (render H W (mirPix H (turnPix H P))) w' a1 a2
      have HCT : Hid (∀ w', Fr (fun _ => False) wk w' → Calls Tryd.prog 10 #[.pointer (some ⟨bt3, 0, none⟩)] w' fun e w'' => e = .returned (.int .i64 (N : Nat)) ∧ ∃ q, w'' = w'.drewN q) := fun w' hf => by
        have := count_any bt3 gt3 (W * stride H) H W (turnPix H P) w' (HM_mk.out w' hf).1.2.1
        rw [pops_render, cnt_turn, ← HNE.out] at this
        exact this
      have HSS : Hid (∀ w', Fr (fun _ => False) wk w' → w'.cell? ⟨w.heap.size, 0, none⟩ = some (.int .i64 W) ∧ w'.cell? ⟨w.heap.size, 1, none⟩ = some (.int .i64 H) ∧ w'.cell? ⟨w.heap.size, 2, none⟩ = some (.slice ao n cap)) := fun w' hf => HBX.out w' (HM_mk.out w' hf).2
      go_wp2_with fail
      go_region_held3 (fun w' => w'.cell? ⟨w.heap.size, 0, none⟩ = some (.int .i64 W) ∧ w'.cell? ⟨w.heap.size, 1, none⟩ = some (.int .i64 H) ∧ w'.cell? ⟨w.heap.size, 2, none⟩ = some (.slice ao n cap)) (exact HSS.out _ (by repeat (first | with_reducible exact Fr.refl _ _ | with_reducible refine Fr.drew ?_ | with_reducible refine Fr.drewN ?_ _ | with_reducible refine Fr.trans ?_ hfL (fun _ _ hh => hh) | with_reducible refine Fr.trans ?_ hfK (fun _ _ hh => hh) | with_reducible refine Fr.trans ?_ hnJ.fr (fun _ _ hh => hh) | with_reducible refine Fr.trans ?_ hnI.fr (fun _ _ hh => hh) | with_reducible refine Fr.trans ?_ hfH (fun _ _ hh => hh) | with_reducible refine Fr.trans ?_ hnG.fr (fun _ _ hh => hh) | with_reducible refine Fr.trans ?_ hfF (fun _ _ hh => hh) | with_reducible refine Fr.trans ?_ hnE.fr (fun _ _ hh => hh) | with_reducible refine Fr.trans ?_ hnD.fr (fun _ _ hh => hh) | with_reducible refine Fr.trans ?_ hfC (fun _ _ hh => hh) | with_reducible refine Fr.trans ?_ hnB.fr (fun _ _ hh => hh) | with_reducible refine Fr.trans ?_ hnA.fr (fun _ _ hh => hh)))) (first | (go_at_call 10; (have _ := hfL); refine (HCT.out _ ((((((((((((((Fr.refl (fun _ => False) wk).drew).trans hnA.fr (fun _ _ hh => hh)).trans hnB.fr (fun _ _ hh => hh)).trans hfC (fun _ _ hh => hh)).trans hnD.fr (fun _ _ hh => hh)).trans hnE.fr (fun _ _ hh => hh)).trans hfF (fun _ _ hh => hh)).trans hnG.fr (fun _ _ hh => hh)).trans hfH (fun _ _ hh => hh)).trans hnI.fr (fun _ _ hh => hh)).trans hnJ.fr (fun _ _ hh => hh)).trans hfK (fun _ _ hh => hh)).trans hfL (fun _ _ hh => hh))).mono ?_; rintro e wM ⟨rfl, qM, rfl⟩) | (go_at_call 12; (have _ := hfK); refine (HEQ.out gp cp gq cq _ (row_kept (row_kept (row_kept hoH hnI.fr (fun _ _ hh => hh)) hnJ.fr (fun _ _ hh => hh)) hfK (fun _ _ hh => hh)) hoK).mono ?_; rintro e wL ⟨rfl, hfL⟩) | (go_at_call 13; (have _ := hnJ); refine (plain_any bJ gJ (W * stride H) H W (turnPix H (turnPix W (turnPix H (mirPix W P)))) _ hnJ.at_).mono ?_; rintro e wK ⟨gq, cq, rfl, hoK, hfK, _⟩) | (go_at_call 9; (have _ := hnI); refine (HTU.out bI gI (H * stride W) W H (turnPix W (turnPix H (mirPix W P))) _ (((((((((((Fr.refl (fun _ => False) wk).drew).trans hnA.fr (fun _ _ hh => hh)).trans hnB.fr (fun _ _ hh => hh)).trans hfC (fun _ _ hh => hh)).trans hnD.fr (fun _ _ hh => hh)).trans hnE.fr (fun _ _ hh => hh)).trans hfF (fun _ _ hh => hh)).trans hnG.fr (fun _ _ hh => hh)).trans hfH (fun _ _ hh => hh)).trans hnI.fr (fun _ _ hh => hh)) hnI.at_).mono ?_; rintro e wJ ⟨bJ, gJ, rfl, hnJ⟩) | (go_at_call 9; (have _ := hfH); refine (HTU.out bt12 gt12 (W * stride H) H W (turnPix H (mirPix W P)) _ ((((((((((Fr.refl (fun _ => False) wk).drew).trans hnA.fr (fun _ _ hh => hh)).trans hnB.fr (fun _ _ hh => hh)).trans hfC (fun _ _ hh => hh)).trans hnD.fr (fun _ _ hh => hh)).trans hnE.fr (fun _ _ hh => hh)).trans hfF (fun _ _ hh => hh)).trans hnG.fr (fun _ _ hh => hh)).trans hfH (fun _ _ hh => hh)) (HM_mk.out _ ((((((((((Fr.refl (fun _ => False) wk).drew).trans hnA.fr (fun _ _ hh => hh)).trans hnB.fr (fun _ _ hh => hh)).trans hfC (fun _ _ hh => hh)).trans hnD.fr (fun _ _ hh => hh)).trans hnE.fr (fun _ _ hh => hh)).trans hfF (fun _ _ hh => hh)).trans hnG.fr (fun _ _ hh => hh)).trans hfH (fun _ _ hh => hh))).1.2.2.2).mono ?_; rintro e wI ⟨bI, gI, rfl, hnI⟩) | (go_at_call 13; (have _ := hnG); refine (plain_any bG gG (W * stride H) H W (mirPix H (turnPix H P)) _ hnG.at_).mono ?_; rintro e wH ⟨gp, cp, rfl, hoH, hfH, _⟩) | (go_at_call 8; (have _ := hfF); refine (mirror_any bt3 gt3 (W * stride H) H W (turnPix H P) _ (HM_mk.out _ ((((((((Fr.refl (fun _ => False) wk).drew).trans hnA.fr (fun _ _ hh => hh)).trans hnB.fr (fun _ _ hh => hh)).trans hfC (fun _ _ hh => hh)).trans hnD.fr (fun _ _ hh => hh)).trans hnE.fr (fun _ _ hh => hh)).trans hfF (fun _ _ hh => hh))).1.2.1).mono ?_; rintro e wG ⟨bG, gG, rfl, hnG⟩) | (go_at_call 11; (have _ := hnE); refine (HSA.out bE gE (H * stride W) _ _ (((((((Fr.refl (fun _ => False) wk).drew).trans hnA.fr (fun _ _ hh => hh)).trans hnB.fr (fun _ _ hh => hh)).trans hfC (fun _ _ hh => hh)).trans hnD.fr (fun _ _ hh => hh)).trans hnE.fr (fun _ _ hh => hh)) hnE.at_ (turn4 W H P)).mono ?_; rintro e wF ⟨rfl, hfF⟩) | (go_at_call 9; (have _ := hnD); refine (HTU.out bD gD (W * stride H) H W (turnPix H (turnPix W (turnPix H P))) _ ((((((Fr.refl (fun _ => False) wk).drew).trans hnA.fr (fun _ _ hh => hh)).trans hnB.fr (fun _ _ hh => hh)).trans hfC (fun _ _ hh => hh)).trans hnD.fr (fun _ _ hh => hh)) hnD.at_).mono ?_; rintro e wE ⟨bE, gE, rfl, hnE⟩) | (go_at_call 9; (have _ := hfC); refine (HTU.out bt4 gt4 (H * stride W) W H (turnPix W (turnPix H P)) _ (((((Fr.refl (fun _ => False) wk).drew).trans hnA.fr (fun _ _ hh => hh)).trans hnB.fr (fun _ _ hh => hh)).trans hfC (fun _ _ hh => hh)) (HM_mk.out _ (((((Fr.refl (fun _ => False) wk).drew).trans hnA.fr (fun _ _ hh => hh)).trans hnB.fr (fun _ _ hh => hh)).trans hfC (fun _ _ hh => hh))).1.2.2.1).mono ?_; rintro e wD ⟨bD, gD, rfl, hnD⟩) | (go_at_call 11; (have _ := hnB); refine (HSA.out bB gB (H * stride W) _ _ ((((Fr.refl (fun _ => False) wk).drew).trans hnA.fr (fun _ _ hh => hh)).trans hnB.fr (fun _ _ hh => hh)) hnB.at_ (fun x y hx _ => mir_mir W P x y hx)).mono ?_; rintro e wC ⟨rfl, hfC⟩) | (go_at_call 8; (have _ := hnA); refine (mirror_any bA gA (H * stride W) W H (mirPix W P) _ hnA.at_).mono ?_; rintro e wB ⟨bB, gB, rfl, hnB⟩) | (go_at_call 8; refine (mirror_any bm gm cm W H P _ (HM_mk.out _ ((Fr.refl (fun _ => False) wk).drew)).1.1).mono ?_; rintro e wA ⟨bA, gA, rfl, hnA⟩))
      have hfin : Fr (fun _ => False) wk (wL.drewN qM) := ((((((((((((((Fr.refl (fun _ => False) wk).drew).trans hnA.fr (fun _ _ hh => hh)).trans hnB.fr (fun _ _ hh => hh)).trans hfC (fun _ _ hh => hh)).trans hnD.fr (fun _ _ hh => hh)).trans hnE.fr (fun _ _ hh => hh)).trans hfF (fun _ _ hh => hh)).trans hnG.fr (fun _ _ hh => hh)).trans hfH (fun _ _ hh => hh)).trans hnI.fr (fun _ _ hh => hh)).trans hnJ.fr (fun _ _ hh => hh)).trans hfK (fun _ _ hh => hh)).trans hfL (fun _ _ hh => hh)).drewN qM
      have HFIN : Hid (Fr (fun _ => False) wk (wL.drewN qM)) := hfin
      clear hfin hnA hnB hfC hnD hnE hfF hnG hoH hfH hnI hnJ hoK hfK hfL HSA HTU HEQ HCT HSS
      have HZ : Hid (∀ w', Fr (fun _ => False) (wL.drewN qM) w' → (MapAt w' bm gm cm W H P ∧ MapAt w' bt3 gt3 (W * stride H) H W (turnPix H P)) ∧ Fr (fun _ => False) (w.alloc (.cells #[.int .i64 W, .int .i64 H, .slice ao n cap] 24)) w') := fun w' hf => by
        have h := HM_mk.out w' (HFIN.out.trans hf (fun _ _ hh => hh))
        exact ⟨⟨h.1.1, h.1.2.1⟩, h.2⟩
      clear HM_mk HFIN HWW
      generalize wL.drewN qM = wz at *
      have HWW : Hid (∀ w', Fr (fun _ => False) wz w' → Fr (fun _ => False) w w') := fun w' hf => ((Fr.refl _ _).alloc _).trans (HZ.out w' hf).2 (fun _ _ hh => hh)
      have HPB : Hid (∀ w', Fr (fun _ => False) wz w' → w'.cell? ⟨w.heap.size, 0, none⟩ = some (.int .i64 W) ∧ w'.cell? ⟨w.heap.size, 1, none⟩ = some (.int .i64 H) ∧ w'.cell? ⟨w.heap.size, 2, none⟩ = some (.slice ao n cap)) := fun w' hf => HBX.out w' (HZ.out w' hf).2
      go_wp2_with fail
      go_loopw [9, 10] (fun yy _ wr => ∃ k : Nat, k ≤ H ∧ yy = .int .i64 k ∧ Fr (fun _ => False) wz wr) (fun yy _ _ => H - (intOf yy).toNat)
      case atStart => exact ⟨0, Nat.zero_le _, rfl, Fr.refl _ _⟩
      case round =>
        obtain ⟨k, hk, rfl, hfr⟩ := hrel
        have HFr : Hid (Fr (fun _ => False) wz wr) := hfr
        obtain ⟨p0, p1, p2⟩ := HPB.out wr hfr
        clear hfr
        by_cases hlk : k < H
        · go_wp2_with fail
          go_loopw [10] (fun xx wi => ∃ m : Nat, m ≤ W ∧ xx = .int .i64 m ∧ Fr (fun _ => False) wz wi) (fun xx _ => W - (intOf xx).toNat)
          case atStart => exact ⟨0, Nat.zero_le _, rfl, HFr.out⟩
          case round =>
            obtain ⟨m, hm, rfl, hfi⟩ := hrel
            have HFi : Hid (Fr (fun _ => False) wz wr) := hfi
            clear p0 p1 p2
            obtain ⟨p0, p1, p2⟩ := HPB.out wr hfi
            clear hfi
            by_cases hmt : m < W
            · obtain ⟨tt, htt⟩ : ∃ tt : Nat, tt = H - 1 - k := ⟨_, rfl⟩
              have g1 : IntKind.i64.wrap ((H : Int) - 1) = (H : Int) - 1 := by rw [IntKind.wrap_i64]; omega
              have g2 : IntKind.i64.wrap ((H : Int) - 1 - (k : Int)) = (tt : Int) := by rw [IntKind.wrap_i64]; omega
              have HG : Hid (∀ w', Fr (fun _ => False) wr w' → Calls Tryd.prog 14 #[.pointer (some ⟨bt3, 0, none⟩), .int .i64 tt, .int .i64 m] w' fun e w'' => e = .returned (.int .i64 ((P m k).toNat : Nat)) ∧ ∃ q, w'' = w'.drewN q) := fun w' hf => by
                have := get_in bt3 gt3 (W * stride H) H W (turnPix H P) tt m w' (HZ.out w' (HFi.out.trans hf (fun _ _ hh => hh))).1.2 (by omega) hmt
                rw [htt, turn_at H P m k hlk, ← htt] at this
                exact this
              have HZG : Hid (∀ w', Fr (fun _ => False) wr w' → Calls Tryd.prog 15 #[.agg #[.int .i64 W, .int .i64 H, .slice ao n cap], .int .i64 m, .int .i64 k] w' fun e w'' => e = .returned (.int .i64 ((P m k).toNat : Nat)) ∧ Fr (fun _ => False) w' w'') := fun w' hf => zget_in W H _ P m k w' (HVR.out w' (HWW.out w' (HFi.out.trans hf (fun _ _ hh => hh)))) HSZ.out.1 HSZ.out.2.1 HSZ.out.2.2 hmt hlk
              have HS2 : Hid (∀ w', Fr (fun _ => False) wr w' → w'.cell? ⟨w.heap.size, 0, none⟩ = some (.int .i64 W) ∧ w'.cell? ⟨w.heap.size, 1, none⟩ = some (.int .i64 H) ∧ w'.cell? ⟨w.heap.size, 2, none⟩ = some (.slice ao n cap)) := fun w' hf => HPB.out w' (HFi.out.trans hf (fun _ _ hh => hh))
              have hpp : (((P m k).toNat : Int) != ((P m k).toNat : Int)) = false := by simp
              clear htt
              go_wp2_with fail
              clear p0 p1 p2
              go_region_held3 (fun w' => w'.cell? ⟨w.heap.size, 0, none⟩ = some (.int .i64 W) ∧ w'.cell? ⟨w.heap.size, 1, none⟩ = some (.int .i64 H) ∧ w'.cell? ⟨w.heap.size, 2, none⟩ = some (.slice ao n cap)) (first | exact HS2.out _ ((Fr.refl _ _).drew) | exact HS2.out _ ((Fr.refl _ _).drewN _) | exact HS2.out _ (((Fr.refl _ _).drewN _).trans hf7 (fun _ _ hh => hh))) (first | (go_at_call 14; refine (HG.out _ ((Fr.refl _ _).drew)).mono ?_; rintro e w6 ⟨rfl, q6, rfl⟩) | (go_at_call 15; refine (HZG.out _ ((Fr.refl _ _).drewN _)).mono ?_; rintro e w7 ⟨rfl, hf7⟩))
              have HF7 : Hid (Fr (fun _ => False) wz w7) := (HFi.out.drewN _).trans hf7 (fun _ _ hh => hh)
              clear hf7
              go_wp2_with fail
              go_roundw
              case rel => exact ⟨m + 1, by omega, congrArg (Value.int .i64) (by omega), HF7.out⟩
              case measure => simp [intOf]; omega
            · have hmn : m = W := by omega
              subst hmn
              go_wp2_with fail
              go_roundw
              case rel => exact ⟨k + 1, by omega, congrArg (Value.int .i64) (by omega), HFi.out⟩
              case measure => simp [intOf]; omega
        · have hkn : k = H := by omega
          subst hkn
          have HMl : Hid (MapAt wr bm gm cm W k P) := (HZ.out wr HFr.out).1.1
          have HXl : Hid (∀ w', Fr (fun i => i = gm) wr w' → Fr (fun _ => False) (w.alloc (.cells #[.int .i64 W, .int .i64 k, .slice ao n cap] 24)) w') := fun w' hf => ((HZ.out wr HFr.out).2).trans hf (fun i hi e => by have := HNM.out; simp at hi; omega)
          have HWl : Hid (∀ w', Fr (fun i => i = gm) wr w' → Fr (fun _ => False) w w') := fun w' hf => ((Fr.refl _ _).alloc _).trans (HXl.out w' hf) (fun _ _ hh => hh)
          go_wp2_with fail
          refine (invert_any bm gm cm W k P _ HMl.out).mono ?_
          rintro e wi ⟨rfl, hmi, hfi⟩
          have HMi : Hid (∀ w', Fr (fun _ => False) wi w' → MapAt w' bm gm cm W k (fun a e => !P a e)) := fun w' hf => hmi.kept hf (fun x => x) (fun x => x)
          have HFi : Hid (Fr (fun i => i = gm) wr wi) := hfi
          clear hmi hfi p0 p1 p2
          obtain ⟨A, hA⟩ : ∃ A, A = W * k := ⟨_, rfl⟩
          obtain ⟨M, hM⟩ : ∃ M, M = cnt W k (fun a e => !P a e) := ⟨_, rfl⟩
          have hMN : M + N = A := by rw [hM, hA, HNE.out]; exact cnt_not W k P
          have hAl : A ≤ 1048576 := by rw [hA]; exact HSZ.out.2.2
          have u1 : (W : Int) * (k : Int) = (A : Int) := by rw [hA]; push_cast; rfl
          have u2 : IntKind.i64.wrap (A : Int) = (A : Int) := by rw [IntKind.wrap_i64]; omega
          have u3 : IntKind.i64.wrap ((A : Int) - (N : Int)) = (M : Int) := by rw [IntKind.wrap_i64]; omega
          have u4 : ((M : Int) != (M : Int)) = false := by simp
          have HC2 : Hid (∀ w', Fr (fun _ => False) wi w' → Calls Tryd.prog 10 #[.pointer (some ⟨bm, 0, none⟩)] w' fun e w'' => e = .returned (.int .i64 (M : Nat)) ∧ ∃ q, w'' = w'.drewN q) := fun w' hf => by
            have := count_any bm gm cm W k (fun a e => !P a e) w' (HMi.out w' hf)
            rw [pops_render, ← hM] at this
            exact this
          have HMA : Hid (∀ (gp cp : Nat) w', w'.ownsRow 0 42 1 (.slice (some ⟨gp, 0, none⟩) (k * stride W) cp) (k * stride W) (wordCells (render W k (fun a e => !P a e))) → Calls Tryd.prog 4 #[.agg #[.int .i64 W, .int .i64 k, .slice (some ⟨gp, 0, none⟩) (k * stride W) cp]] w' fun e w'' => e = .returned (.bool true) ∧ Fr (fun _ => False) w' w'') := fun gp cp w' h1 => by
            obtain ⟨s1, s2, s3⟩ := HSZ.out
            have hwl := (size_facts s1 s2 s3).2.2
            have a1 := Seen.of_row (base := 0) (w := w') (v := .slice (some ⟨gp, 0, none⟩) (k * stride W) cp) (l := render W k (fun a e => !P a e)) (by rw [length_render]; exact h1) (by rw [length_render]; omega)
            have := may_any W k _ (render W k (fun a e => !P a e)) w' (by omega) (by omega) a1 (render_ltD W k _)
            rw [render_valid W k _ s1 s2 s3] at this
            exact this
          have HS3 : Hid (∀ w', Fr (fun _ => False) wi w' → w'.cell? ⟨w.heap.size, 0, none⟩ = some (.int .i64 W) ∧ w'.cell? ⟨w.heap.size, 1, none⟩ = some (.int .i64 k)) := fun w' hf => by
            have := HBX.out w' (HXl.out w' (HFi.out.trans hf (fun _ _ hh => hh.elim)))
            exact ⟨this.1, this.2.1⟩
          clear hA hM hMN hAl
          go_wp2_with fail
          go_region_held3 (fun w' => w'.cell? ⟨w.heap.size, 0, none⟩ = some (.int .i64 W) ∧ w'.cell? ⟨w.heap.size, 1, none⟩ = some (.int .i64 k)) (first | exact HS3.out _ ((Fr.refl _ _).drew) | exact HS3.out _ ((Fr.refl _ _).drewN _) | exact HS3.out _ (((Fr.refl _ _).drewN _).trans hfp (fun _ _ hh => hh)) | exact HS3.out _ ((((Fr.refl _ _).drewN _).trans hfp (fun _ _ hh => hh)).trans hfy (fun _ _ hh => hh))) (first | (go_at_call 10; refine (HC2.out _ ((Fr.refl _ _).drew)).mono ?_; rintro e wo ⟨rfl, qo, rfl⟩) | (go_at_call 13; refine (plain_any bm gm cm W k (fun a e => !P a e) _ (HMi.out _ ((Fr.refl _ _).drewN _))).mono ?_; rintro e wp ⟨gp, cp, rfl, hop, hfp, _⟩) | (go_at_call 4; refine (HMA.out gp cp _ hop).mono ?_; rintro e wy ⟨rfl, hfy⟩))
          have hfz : Fr (fun _ => False) wi wy := (((Fr.refl (fun _ => False) wi).drewN _).trans hfp (fun _ _ hh => hh)).trans hfy (fun _ _ hh => hh)
          have HMy : Hid (MapAt wy bm gm cm W k (fun a e => !P a e)) := HMi.out wy hfz
          have HFy : Hid (Fr (fun i => i = gm) wr wy) := HFi.out.trans hfz (fun _ _ hh => hh.elim)
          clear hop hfp hfy hfz
          go_wp2_with fail
          refine (invert_any bm gm cm W k (fun a e => !P a e) _ HMy.out).mono ?_
          rintro e wu ⟨rfl, hmu, hfu⟩
          have HMu : Hid (MapAt wu bm gm cm W k P) := hmu.pix (fun a e _ _ => by simp)
          have HFu : Hid (Fr (fun i => i = gm) wr wu) := HFy.out.trans hfu (fun _ _ hh => hh)
          clear hmu hfu
          obtain ⟨p0, p1, p2⟩ := HBX.out wu (HXl.out wu HFu.out)
          have HSM : Hid (Calls Tryd.prog 11 #[.pointer (some ⟨bm, 0, none⟩), .agg #[.int .i64 W, .int .i64 k, .slice ao n cap]] wu fun e w'' => e = .returned (.bool true) ∧ Fr (fun _ => False) wu w'') := by
            have := same_any bm gm cm W k P W k _ (render W k P) wu HMu.out (HVR.out wu (HWl.out wu HFu.out))
            have hsb : sameB W k P W k (render W k P) = true := by unfold sameB eqB; simp
            rw [hsb] at this
            exact this
          go_wp2_with fail
          refine HSM.out.mono ?_
          rintro e wv ⟨rfl, hfv⟩
          have HFv : Hid (Fr (fun _ => False) w wv) := (HWl.out wu HFu.out).trans hfv (fun _ _ hh => hh)
          clear hfv
          go_wp2_with fail
          refine (wakes_any _).mono ?_
          rintro e wx ⟨rfl, hfx⟩
          have HFx : Hid (Fr (fun _ => False) w wx) := HFv.out.trans hfx (fun _ _ hh => hh)
          clear hfx
          go_wp2_with fail
          go_ret
          exact ⟨rfl, HFx.out⟩

end Go.Proofs.YtcopbjinnegfoabDoor
