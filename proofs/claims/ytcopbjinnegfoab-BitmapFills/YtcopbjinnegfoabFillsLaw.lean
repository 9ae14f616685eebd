/- 'BitmapFills' returns true. -/
import Derived.Test.YtcopbjinnegfoabFill
import Derived.Test.YtcopbjinnegfoabFillM
import Derived.Test.YtcopbjinnegfoabCrop
import Derived.Test.YtcopbjinnegfoabSmallish
import Derived.Test.YtcopbjinnegfoabMay
import Derived.Test.YtcopbjinnegfoabFrom
import Derived.Test.YtcopbjinnegfoabRef
import Derived.Test.YtcopbjinnegfoabRefuse
import Derived.Test.YtcopbjinnegfoabWakes
import Derived.Deep.RegionHeld3
namespace Go.Proofs.Ytcopbjinnegfoab
open Go.RowKit

theorem fill_none {W H : Nat} {x y ww hh : Int} (h : ∀ a e : Nat, a < W → e < H → ¬ ((0 ≤ (a : Int) - x ∧ (a : Int) - x < ww) ∧ (0 ≤ (e : Int) - y ∧ (e : Int) - y < hh))) (c : Bool) : ∀ a e, a < W → e < H → fillPix (fun _ _ => true) x y ww hh c a e = true := by
  intro a e ha he
  unfold fillPix
  rw [if_neg (h a e ha he)]

theorem fill_corner {W H : Nat} (xx yy : Nat) (f1 : W ≤ 1048576) (f2 : H ≤ 1048576) : ∀ a e, a < W → e < H → fillPix (fun _ _ => true) xx yy 9223372036854775807 9223372036854775807 (decide (0 = 1)) a e = !decide (xx ≤ a ∧ yy ≤ e) := by
  intro a e ha he
  unfold fillPix
  by_cases h : xx ≤ a ∧ yy ≤ e
  · rw [if_pos ⟨⟨by omega, by omega⟩, by omega, by omega⟩, decide_eq_true h]; rfl
  · rw [if_neg (by omega), decide_eq_false h]; rfl

set_option maxRecDepth 100000 in
set_option maxHeartbeats 1000000 in
theorem blit_nil (b : Nat) (sx sy ww hh dx dy op : Int) (w : World) :
    Calls Try.prog 11 #[.pointer (some ⟨b, 0, none⟩), .pointer none, .int .i64 sx, .int .i64 sy, .int .i64 ww, .int .i64 hh, .int .i64 dx, .int .i64 dy, .int .i64 op] w fun e w' => e = .returned (.int .i64 26) ∧ w' = w := by
  go_enter Try.func11, Try.ntmps11
  go_wp2_with fail
  go_ret
  exact ⟨rfl, rfl⟩

set_option maxRecDepth 100000 in
set_option maxHeartbeats 4000000 in
theorem fills_any (x y x2 y2 n0 n1 n2 n3 n4 n5 n6 n7 : Int) (v v2 : Value) (l : List Nat) (w : World) (hx : -9223372036854775808 ≤ x ∧ x ≤ 9223372036854775807) (hy : -9223372036854775808 ≤ y ∧ y ≤ 9223372036854775807) (hv : Seen w v l) (hlt : ∀ j : Nat, l[j]?.getD 0 < 18446744073709551616) (hv2 : ∃ ao m c, v2 = .slice ao m c)
    (b0 : -9223372036854775808 ≤ n0 ∧ n0 ≤ 9223372036854775807) (b1 : -9223372036854775808 ≤ n1 ∧ n1 ≤ 9223372036854775807) :
    Calls Try.prog 3 #[.agg #[.int .i64 x, .int .i64 y, v, .int .i64 x2, .int .i64 y2, v2, .int .i64 n0, .int .i64 n1, .int .i64 n2, .int .i64 n3, .int .i64 n4, .int .i64 n5, .int .i64 n6, .int .i64 n7]] w fun e w' => e = .returned (.bool true) ∧ Fr (fun _ => False) w w' := by
  obtain ⟨ao2, m2, c2, rfl⟩ := hv2
  have HMY : Hid (∀ w', Fr (fun _ => False) w w' → Calls Try.prog 5 #[.agg #[.int .i64 x, .int .i64 y, v]] w' fun e w'' => e = .returned (.bool (validB x y l)) ∧ Fr (fun _ => False) w' w'') := fun w' hf => may_any x y v l w' hx hy (hv.kept hf) hlt
  have HV : Hid (Seen w v l) := hv
  have HLT : Hid (∀ j : Nat, l[j]?.getD 0 < 18446744073709551616) := hlt
  obtain ⟨ao, cap, hve, hll, _⟩ := hv
  clear hlt
  subst hve
  generalize l.length = n at *
  have HBX : Hid (∀ w' : World, Fr (fun _ => False) (w.alloc (.cells #[.int .i64 x, .int .i64 y, .slice ao n cap, .int .i64 x2, .int .i64 y2, .slice ao2 m2 c2, .int .i64 n0, .int .i64 n1, .int .i64 n2, .int .i64 n3, .int .i64 n4, .int .i64 n5, .int .i64 n6, .int .i64 n7] 27)) w' → (w'.cell? ⟨w.heap.size, 0, none⟩ = some (.int .i64 x) ∧ w'.cell? ⟨w.heap.size, 1, none⟩ = some (.int .i64 y) ∧ w'.cell? ⟨w.heap.size, 2, none⟩ = some (.slice ao n cap)) ∧ (w'.cell? ⟨w.heap.size, 6, none⟩ = some (.int .i64 n0) ∧ w'.cell? ⟨w.heap.size, 7, none⟩ = some (.int .i64 n1) ∧ w'.cell? ⟨w.heap.size, 8, none⟩ = some (.int .i64 n2) ∧ w'.cell? ⟨w.heap.size, 9, none⟩ = some (.int .i64 n3) ∧ w'.cell? ⟨w.heap.size, 10, none⟩ = some (.int .i64 n4) ∧ w'.cell? ⟨w.heap.size, 11, none⟩ = some (.int .i64 n5) ∧ w'.cell? ⟨w.heap.size, 12, none⟩ = some (.int .i64 n6) ∧ w'.cell? ⟨w.heap.size, 13, none⟩ = some (.int .i64 n7))) := fun w' hf => by
    have hB : w'.heap[w.heap.size]? = some (.cells #[.int .i64 x, .int .i64 y, .slice ao n cap, .int .i64 x2, .int .i64 y2, .slice ao2 m2 c2, .int .i64 n0, .int .i64 n1, .int .i64 n2, .int .i64 n3, .int .i64 n4, .int .i64 n5, .int .i64 n6, .int .i64 n7] 27 (0, 0)) := by
      rw [hf.block _ (by simp) (fun hh => hh)]; exact heap_alloc_new _ _
    refine ⟨⟨?_, ?_, ?_⟩, ?_, ?_, ?_, ?_, ?_, ?_, ?_, ?_⟩ <;> (unfold World.cell?; rw [hB]; rfl)
  go_enter Try.func3, Try.ntmps3
  go_wp2_with fail
  refine (HMY.out _ ((Fr.refl _ _).alloc _)).mono ?_
  rintro e w1 ⟨rfl, hf1⟩
  have HF1 : Hid (Fr (fun _ => False) (w.alloc (.cells #[.int .i64 x, .int .i64 y, .slice ao n cap, .int .i64 x2, .int .i64 y2, .slice ao2 m2 c2, .int .i64 n0, .int .i64 n1, .int .i64 n2, .int .i64 n3, .int .i64 n4, .int .i64 n5, .int .i64 n6, .int .i64 n7] 27)) w1) := hf1
  have HW1 : Hid (Fr (fun _ => False) w w1) := ((Fr.refl _ _).alloc _).trans hf1 (fun _ _ hh => hh)
  obtain ⟨⟨k0, k1, k2⟩, _⟩ := HBX.out w1 hf1
  clear hf1
  rcases hvb : validB x y l with _ | _
  · go_wp2_with fail
    refine (wakes_any _).mono ?_
    rintro e w9 ⟨rfl, hf9⟩
    have HF9 : Hid (Fr (fun _ => False) w w9) := HW1.out.trans hf9 (fun _ _ hh => hh)
    clear hf9
    go_wp2_with fail
    go_ret
    exact ⟨rfl, HF9.out⟩
  · obtain ⟨W, H, rfl, rfl, h1, h2, h3, hl, hr⟩ := valid_parts hvb
    obtain ⟨f1, f2, f3⟩ := size_facts h1 h2 h3
    have HSZ : Hid (1 ≤ W ∧ 1 ≤ H ∧ W * H ≤ 1048576) := ⟨h1, h2, h3⟩
    have HFR : Hid (∀ w', Fr (fun _ => False) w w' → Calls Try.prog 8 #[.agg #[.int .i64 W, .int .i64 H, .slice ao n cap]] w' fun e w'' => ∃ b g cap, e = .returned (.tuple #[.pointer (some ⟨b, 0, none⟩), .int .i64 0]) ∧ NewMap w' w'' b g cap W H (pixOf W l)) := fun w' hf => from_yes W H _ l w' h1 h2 h3 (HV.out.kept hf) HLT.out hl hr
    have hrn : l = render W H (pixOf W l) := valid_render W H l h1 hl hr HLT.out
    have HVR : Hid (∀ w', Fr (fun _ => False) w w' → Seen w' (.slice ao n cap) (render W H (pixOf W l))) := fun w' hf => by rw [← hrn]; exact HV.out.kept hf
    clear hrn h1 h2 h3 hl hr hx hy hvb HMY HLT f3 HV
    generalize pixOf W l = P at *
    go_wp2_with fail
    refine (small_any w1.heap.size 0 1 1 60000 _ (by omega) ?_).mono ?_
    · intro i hi
      obtain rfl : i = 0 := by omega
      refine ⟨ao, n, cap, ?_⟩
      have := heap_alloc_new w1 (.cells #[.int .i64 W, .int .i64 H, .slice ao n cap] 24)
      unfold World.cell?
      rw [this]; rfl
    rintro e w2 ⟨bb, rfl, q2, hw2⟩
    have HF2 : Hid (Fr (fun _ => False) (w.alloc (.cells #[.int .i64 W, .int .i64 H, .slice ao n cap, .int .i64 x2, .int .i64 y2, .slice ao2 m2 c2, .int .i64 n0, .int .i64 n1, .int .i64 n2, .int .i64 n3, .int .i64 n4, .int .i64 n5, .int .i64 n6, .int .i64 n7] 27)) w2) := by rw [hw2]; exact (HF1.out.alloc _).drewN q2
    have HW2 : Hid (Fr (fun _ => False) w w2) := by rw [hw2]; exact (HW1.out.alloc _).drewN q2
    clear hw2 HF1 HW1 k0 k1 k2
    obtain ⟨⟨k0, k1, k2⟩, _⟩ := HBX.out w2 HF2.out
    cases bb
    · go_wp2_with fail
      refine (wakes_any _).mono ?_
      rintro e w9 ⟨rfl, hf9⟩
      have HF9 : Hid (Fr (fun _ => False) w w9) := HW2.out.trans hf9 (fun _ _ hh => hh)
      clear hf9
      go_wp2_with fail
      go_ret
      exact ⟨rfl, HF9.out⟩
    · go_wp2_with fail
      refine (HFR.out _ HW2.out).mono ?_
      rintro e w3 ⟨ba, ga, ca, rfl, hn3⟩
      have HA3 : Hid (MapAt w3 ba ga ca W H P) := hn3.at_
      have HF3 : Hid (Fr (fun _ => False) (w.alloc (.cells #[.int .i64 W, .int .i64 H, .slice ao n cap, .int .i64 x2, .int .i64 y2, .slice ao2 m2 c2, .int .i64 n0, .int .i64 n1, .int .i64 n2, .int .i64 n3, .int .i64 n4, .int .i64 n5, .int .i64 n6, .int .i64 n7] 27)) w3) := HF2.out.trans hn3.fr (fun _ _ hh => hh)
      have HG3 : Hid (w.heap.size + 1 ≤ ga) := by have a := hn3.ng; have b := HF2.out.size; simp at b; show _ ≤ _; omega
      clear hn3 HF2 HW2 k0 k1 k2
      have HKX : Hid (∀ w', Fr (fun k => k = ga) w3 w' → (w'.cell? ⟨w.heap.size, 0, none⟩ = some (.int .i64 W) ∧ w'.cell? ⟨w.heap.size, 1, none⟩ = some (.int .i64 H) ∧ w'.cell? ⟨w.heap.size, 6, none⟩ = some (.int .i64 n0) ∧ w'.cell? ⟨w.heap.size, 7, none⟩ = some (.int .i64 n1)) ∧ Fr (fun _ => False) w w') := fun w' hf => by
        have q := HG3.out
        have hx : Fr (fun _ => False) (w.alloc (.cells #[.int .i64 W, .int .i64 H, .slice ao n cap, .int .i64 x2, .int .i64 y2, .slice ao2 m2 c2, .int .i64 n0, .int .i64 n1, .int .i64 n2, .int .i64 n3, .int .i64 n4, .int .i64 n5, .int .i64 n6, .int .i64 n7] 27)) w' := HF3.out.trans hf (fun i hi e => by simp at hi; omega)
        obtain ⟨⟨a0, a1, _⟩, b0, b1, _⟩ := HBX.out w' hx
        exact ⟨⟨a0, a1, b0, b1⟩, ((Fr.refl _ _).alloc _).trans hx (fun _ _ hh => hh)⟩
      obtain ⟨A, hA⟩ : ∃ A, A = W * H := ⟨_, rfl⟩
      have hAl : A ≤ 1048576 := by rw [hA]; exact HSZ.out.2.2
      have hmul : (W : Int) * (H : Int) = (A : Int) := by rw [hA]; push_cast; rfl
      have hwA : IntKind.i64.wrap (A : Int) = (A : Int) := by rw [IntKind.wrap_i64]; omega
      have hAA : ((A : Int) != (A : Int)) = false := by simp
      have HAE : Hid (A = W * H) := hA
      clear hA
      have HF1 : Hid (∀ w', MapAt w' ba ga ca W H P → Calls Try.prog 9 #[.pointer (some ⟨ba, 0, none⟩), .int .i64 0, .int .i64 0, .int .i64 9223372036854775807, .int .i64 9223372036854775807, .int .i64 1] w' fun e w'' => e = .returned (.int .i64 0) ∧ MapAt w'' ba ga ca W H (fun _ _ => true) ∧ Fr (fun k => k = ga) w' w'') := fun w' hm => by
        refine (fill_any ba ga ca W H 1 P 0 0 9223372036854775807 9223372036854775807 w' hm (by omega) (by omega) (by omega) (by omega) (by omega)).mono ?_
        rintro e w'' ⟨he, hm2, hf⟩
        exact ⟨he, hm2.pix (fun a e ha he => by unfold fillPix; rw [if_pos ⟨⟨by omega, by omega⟩, by omega, by omega⟩]; rfl), hf⟩
      have HF2 : Hid (∀ w', MapAt w' ba ga ca W H (fun _ _ => true) → Calls Try.prog 9 #[.pointer (some ⟨ba, 0, none⟩), .int .i64 (-9223372036854775808), .int .i64 (-9223372036854775808), .int .i64 9223372036854775807, .int .i64 9223372036854775807, .int .i64 0] w' fun e w'' => e = .returned (.int .i64 0) ∧ MapAt w'' ba ga ca W H (fun _ _ => true) ∧ Fr (fun k => k = ga) w' w'') := fun w' hm => by
        refine (fill_any ba ga ca W H 0 (fun _ _ => true) (-9223372036854775808) (-9223372036854775808) 9223372036854775807 9223372036854775807 w' hm (by omega) (by omega) (by omega) (by omega) (by omega)).mono ?_
        rintro e w'' ⟨he, hm2, hf⟩
        exact ⟨he, hm2.pix (fill_none (fun a e ha he => by omega) _), hf⟩
      have HF3b : Hid (∀ w', MapAt w' ba ga ca W H (fun _ _ => true) → Calls Try.prog 9 #[.pointer (some ⟨ba, 0, none⟩), .int .i64 9223372036854775807, .int .i64 0, .int .i64 9223372036854775807, .int .i64 9223372036854775807, .int .i64 0] w' fun e w'' => e = .returned (.int .i64 0) ∧ MapAt w'' ba ga ca W H (fun _ _ => true) ∧ Fr (fun k => k = ga) w' w'') := fun w' hm => by
        refine (fill_any ba ga ca W H 0 (fun _ _ => true) 9223372036854775807 0 9223372036854775807 9223372036854775807 w' hm (by omega) (by omega) (by omega) (by omega) (by omega)).mono ?_
        rintro e w'' ⟨he, hm2, hf⟩
        exact ⟨he, hm2.pix (fill_none (fun a e ha he => by omega) _), hf⟩
      have HF4 : Hid (∀ w', MapAt w' ba ga ca W H (fun _ _ => true) → Calls Try.prog 9 #[.pointer (some ⟨ba, 0, none⟩), .int .i64 (-5), .int .i64 (-5), .int .i64 5, .int .i64 9223372036854775807, .int .i64 0] w' fun e w'' => e = .returned (.int .i64 0) ∧ MapAt w'' ba ga ca W H (fun _ _ => true) ∧ Fr (fun k => k = ga) w' w'') := fun w' hm => by
        refine (fill_any ba ga ca W H 0 (fun _ _ => true) (-5) (-5) 5 9223372036854775807 w' hm (by omega) (by omega) (by omega) (by omega) (by omega)).mono ?_
        rintro e w'' ⟨he, hm2, hf⟩
        exact ⟨he, hm2.pix (fill_none (fun a e ha he => by omega) _), hf⟩
      have HF5 : Hid (∀ w', MapAt w' ba ga ca W H (fun _ _ => true) → Calls Try.prog 9 #[.pointer (some ⟨ba, 0, none⟩), .int .i64 (-9223372036854775807), .int .i64 0, .int .i64 9223372036854775807, .int .i64 9223372036854775807, .int .i64 0] w' fun e w'' => e = .returned (.int .i64 0) ∧ MapAt w'' ba ga ca W H (fun _ _ => true) ∧ Fr (fun k => k = ga) w' w'') := fun w' hm => by
        refine (fill_any ba ga ca W H 0 (fun _ _ => true) (-9223372036854775807) 0 9223372036854775807 9223372036854775807 w' hm (by omega) (by omega) (by omega) (by omega) (by omega)).mono ?_
        rintro e w'' ⟨he, hm2, hf⟩
        exact ⟨he, hm2.pix (fill_none (fun a e ha he => by omega) _), hf⟩
      have HF6 : Hid (∀ w', MapAt w' ba ga ca W H (fun _ _ => true) → Calls Try.prog 9 #[.pointer (some ⟨ba, 0, none⟩), .int .i64 (-9223372036854775807), .int .i64 (-9223372036854775807), .int .i64 9223372036854775807, .int .i64 9223372036854775807, .int .i64 0] w' fun e w'' => e = .returned (.int .i64 0) ∧ MapAt w'' ba ga ca W H (fun _ _ => true) ∧ Fr (fun k => k = ga) w' w'') := fun w' hm => by
        refine (fill_any ba ga ca W H 0 (fun _ _ => true) (-9223372036854775807) (-9223372036854775807) 9223372036854775807 9223372036854775807 w' hm (by omega) (by omega) (by omega) (by omega) (by omega)).mono ?_
        rintro e w'' ⟨he, hm2, hf⟩
        exact ⟨he, hm2.pix (fill_none (fun a e ha he => by omega) _), hf⟩
      have HBL : Hid (∀ w', MapAt w' ba ga ca W H (fun _ _ => true) → Calls Try.prog 11 #[.pointer (some ⟨ba, 0, none⟩), .pointer (some ⟨ba, 0, none⟩), .int .i64 (-9223372036854775808), .int .i64 0, .int .i64 9223372036854775807, .int .i64 9223372036854775807, .int .i64 9223372036854775807, .int .i64 0, .int .i64 2] w' fun e w'' => e = .returned (.int .i64 0) ∧ MapAt w'' ba ga ca W H (fun _ _ => true) ∧ Fr (fun k => k = ga) w' w'') := fun w' hm => by
        refine (blit_self 2 ba ga ca W H (fun _ _ => true) (-9223372036854775808) 0 9223372036854775807 9223372036854775807 9223372036854775807 0 w' hm (by omega) (by omega) (by omega) (by omega) (by omega) (by omega) (by omega)).mono ?_
        rintro e w'' ⟨he, hm2, hf⟩
        refine ⟨he, hm2.pix (fun a e ha he => ?_), hf⟩
        unfold blitPix
        rw [if_neg]
        rintro ⟨⟨_, _, _, _⟩, _⟩
        omega
      have HCN : Hid (∀ w', MapAt w' ba ga ca W H (fun _ _ => true) → Calls Try.prog 10 #[.pointer (some ⟨ba, 0, none⟩)] w' fun e w'' => e = .returned (.int .i64 (A : Nat)) ∧ ∃ q, w'' = w'.drewN q) := fun w' hm => by
        have := count_any ba ga ca W H (fun _ _ => true) w' hm
        rw [pops_render, cnt_true, ← HAE.out] at this
        exact this
      have HFc : Hid (Fr (fun k => k = ga) w3 w3) := Fr.refl _ _
      have HMc : Hid (MapAt w3 ba ga ca W H P) := HA3.out
      clear HA3
      go_wp2_with fail
      have HSS : Hid (∀ w', Fr (fun k => k = ga) w3 w' → w'.cell? ⟨w.heap.size, 0, none⟩ = some (.int .i64 W) ∧ w'.cell? ⟨w.heap.size, 1, none⟩ = some (.int .i64 H)) := fun w' hf => ⟨(HKX.out w' (HFc.out.trans hf (fun _ _ hh => hh))).1.1, (HKX.out w' (HFc.out.trans hf (fun _ _ hh => hh))).1.2.1⟩
      go_region_held3 (fun w' => w'.cell? ⟨w.heap.size, 0, none⟩ = some (.int .i64 W) ∧ w'.cell? ⟨w.heap.size, 1, none⟩ = some (.int .i64 H)) (exact HSS.out _ (by repeat (first | with_reducible exact Fr.refl _ _ | with_reducible refine Fr.drew ?_ | with_reducible refine Fr.drewN ?_ _ | with_reducible refine Fr.trans ?_ hf10 (fun _ _ hh => hh) | with_reducible refine Fr.trans ?_ hf12 (fun _ _ hh => hh)))) (first | (go_at_call 10; (have _ := hf12); refine (HCN.out _ hm12).mono ?_; rintro e wf13 ⟨rfl, q13, rfl⟩; (have hk13 : q13 = q13 := rfl)) | (go_at_call 9; (have _ := q11); refine (HF2.out _ (hm10.drewN q11)).mono ?_; rintro e wf12 ⟨rfl, hm12, hf12⟩) | (go_at_call 10; (have _ := hf10); refine (HCN.out _ hm10).mono ?_; rintro e wf11 ⟨rfl, q11, rfl⟩; (have hk11 : q11 = q11 := rfl)) | (go_at_call 9; refine (HF1.out _ (HMc.out.kept ((Fr.refl (fun _ => False) _).drew) (fun x => x) (fun x => x))).mono ?_; rintro e wf10 ⟨rfl, hm10, hf10⟩))
      have hfin : Fr (fun k => k = ga) w3 _ := ((((((Fr.refl (fun k => k = ga) w3).drew).trans hf10 (fun _ _ hh => hh)).drewN q11).trans hf12 (fun _ _ hh => hh)).drewN q13)
      have hmfin := (hm12.drewN q13)
      generalize (wf12.drewN q13) = wA at hfin hmfin ⊢
      have HFn : Hid (Fr (fun k => k = ga) w3 wA) := HFc.out.trans hfin (fun _ _ hh => hh)
      have HMn : Hid (MapAt wA ba ga ca W H (fun _ _ => true)) := hmfin
      clear hfin hmfin HSS HFc HMc hf10 hf12 hm10 hm12 hk11 hk13
      have HFc : Hid (Fr (fun k => k = ga) w3 wA) := HFn.out
      have HMc : Hid (MapAt wA ba ga ca W H (fun _ _ => true)) := HMn.out
      clear HFn HMn
      go_wp2_with fail
      have HSS : Hid (∀ w', Fr (fun k => k = ga) wA w' → w'.cell? ⟨w.heap.size, 0, none⟩ = some (.int .i64 W) ∧ w'.cell? ⟨w.heap.size, 1, none⟩ = some (.int .i64 H)) := fun w' hf => ⟨(HKX.out w' (HFc.out.trans hf (fun _ _ hh => hh))).1.1, (HKX.out w' (HFc.out.trans hf (fun _ _ hh => hh))).1.2.1⟩
      go_region_held3 (fun w' => w'.cell? ⟨w.heap.size, 0, none⟩ = some (.int .i64 W) ∧ w'.cell? ⟨w.heap.size, 1, none⟩ = some (.int .i64 H)) (exact HSS.out _ (by repeat (first | with_reducible exact Fr.refl _ _ | with_reducible refine Fr.drew ?_ | with_reducible refine Fr.drewN ?_ _ | with_reducible refine Fr.trans ?_ hf20 (fun _ _ hh => hh) | with_reducible refine Fr.trans ?_ hf21 (fun _ _ hh => hh) | with_reducible refine Fr.trans ?_ hf23 (fun _ _ hh => hh)))) (first | (go_at_call 10; (have _ := hf23); refine (HCN.out _ hm23).mono ?_; rintro e wf24 ⟨rfl, q24, rfl⟩; (have hk24 : q24 = q24 := rfl)) | (go_at_call 9; (have _ := q22); refine (HF5.out _ (hm21.drewN q22)).mono ?_; rintro e wf23 ⟨rfl, hm23, hf23⟩) | (go_at_call 10; (have _ := hf21); refine (HCN.out _ hm21).mono ?_; rintro e wf22 ⟨rfl, q22, rfl⟩; (have hk22 : q22 = q22 := rfl)) | (go_at_call 9; (have _ := hf20); refine (HF4.out _ hm20).mono ?_; rintro e wf21 ⟨rfl, hm21, hf21⟩) | (go_at_call 9; refine (HF3b.out _ (HMc.out.kept ((Fr.refl (fun _ => False) _).drew) (fun x => x) (fun x => x))).mono ?_; rintro e wf20 ⟨rfl, hm20, hf20⟩))
      have hfin : Fr (fun k => k = ga) wA _ := (((((((Fr.refl (fun k => k = ga) wA).drew).trans hf20 (fun _ _ hh => hh)).trans hf21 (fun _ _ hh => hh)).drewN q22).trans hf23 (fun _ _ hh => hh)).drewN q24)
      have hmfin := (hm23.drewN q24)
      generalize (wf23.drewN q24) = wB at hfin hmfin ⊢
      have HFn : Hid (Fr (fun k => k = ga) w3 wB) := HFc.out.trans hfin (fun _ _ hh => hh)
      have HMn : Hid (MapAt wB ba ga ca W H (fun _ _ => true)) := hmfin
      clear hfin hmfin HSS HFc HMc hf20 hf21 hf23 hm20 hm21 hm23 hk22 hk24
      have HFc : Hid (Fr (fun k => k = ga) w3 wB) := HFn.out
      have HMc : Hid (MapAt wB ba ga ca W H (fun _ _ => true)) := HMn.out
      clear HFn HMn
      go_wp2_with fail
      have HSS : Hid (∀ w', Fr (fun k => k = ga) wB w' → w'.cell? ⟨w.heap.size, 0, none⟩ = some (.int .i64 W) ∧ w'.cell? ⟨w.heap.size, 1, none⟩ = some (.int .i64 H)) := fun w' hf => ⟨(HKX.out w' (HFc.out.trans hf (fun _ _ hh => hh))).1.1, (HKX.out w' (HFc.out.trans hf (fun _ _ hh => hh))).1.2.1⟩
      go_region_held3 (fun w' => w'.cell? ⟨w.heap.size, 0, none⟩ = some (.int .i64 W) ∧ w'.cell? ⟨w.heap.size, 1, none⟩ = some (.int .i64 H)) (exact HSS.out _ (by repeat (first | with_reducible exact Fr.refl _ _ | with_reducible refine Fr.drew ?_ | with_reducible refine Fr.drewN ?_ _ | with_reducible refine Fr.trans ?_ hf30 (fun _ _ hh => hh) | with_reducible refine Fr.trans ?_ hf31 (fun _ _ hh => hh)))) (first | (go_at_call 10; (have _ := hf31); refine (HCN.out _ hm31).mono ?_; rintro e wf32 ⟨rfl, q32, rfl⟩; (have hk32 : q32 = q32 := rfl)) | (go_at_call 11; (have _ := hf30); refine (HBL.out _ hm30).mono ?_; rintro e wf31 ⟨rfl, hm31, hf31⟩) | (go_at_call 9; refine (HF6.out _ (HMc.out.kept ((Fr.refl (fun _ => False) _).drew) (fun x => x) (fun x => x))).mono ?_; rintro e wf30 ⟨rfl, hm30, hf30⟩))
      have hfin : Fr (fun k => k = ga) wB _ := (((((Fr.refl (fun k => k = ga) wB).drew).trans hf30 (fun _ _ hh => hh)).trans hf31 (fun _ _ hh => hh)).drewN q32)
      have hmfin := (hm31.drewN q32)
      generalize (wf31.drewN q32) = wC at hfin hmfin ⊢
      have HFn : Hid (Fr (fun k => k = ga) w3 wC) := HFc.out.trans hfin (fun _ _ hh => hh)
      have HMn : Hid (MapAt wC ba ga ca W H (fun _ _ => true)) := hmfin
      clear hfin hmfin HSS HFc HMc hf30 hf31 hm30 hm31 hk32
      have HFc : Hid (Fr (fun k => k = ga) w3 wC) := HFn.out
      have HMc : Hid (MapAt wC ba ga ca W H (fun _ _ => true)) := HMn.out
      clear HFn HMn
      clear HF1 HF2 HF3b HF4 HF5 HF6 HBL HCN
      obtain ⟨⟨k0, k1, k6, k7⟩, _⟩ := HKX.out wC HFc.out
      have hW1 := HSZ.out.1
      have hH1 := HSZ.out.2.1
      obtain ⟨xx, hxx⟩ : ∃ u : Nat, n0 % (W : Int) = (u : Int) := ⟨(n0 % (W : Int)).toNat, by have := Int.emod_nonneg n0 (show (W : Int) ≠ 0 by omega); omega⟩
      obtain ⟨yy, hyy⟩ : ∃ v : Nat, n1 % (H : Int) = (v : Int) := ⟨(n1 % (H : Int)).toNat, by have := Int.emod_nonneg n1 (show (H : Int) ≠ 0 by omega); omega⟩
      have lx : xx < W := by have := Int.emod_lt_of_pos n0 (show 0 < (W : Int) by omega); omega
      have ly : yy < H := by have := Int.emod_lt_of_pos n1 (show 0 < (H : Int) by omega); omega
      have HI0 : Hid (∀ w' : World, Calls Try.prog 12 #[.int .i64 n0, .int .i64 W] w' fun e w'' => e = .returned (.int .i64 xx) ∧ w'' = w') := fun w' => by have := within_any n0 W w' b0 (by omega) (by omega); rw [hxx] at this; exact this
      have HI1 : Hid (∀ w' : World, Calls Try.prog 12 #[.int .i64 n1, .int .i64 H] w' fun e w'' => e = .returned (.int .i64 yy) ∧ w'' = w') := fun w' => by have := within_any n1 H w' b1 (by omega) (by omega); rw [hyy] at this; exact this
      clear hxx hyy b0 b1
      go_wp2_with fail
      refine (HI0.out _).mono ?_
      rintro e wD ⟨rfl, rfl⟩
      go_wp2_with fail
      refine (HI1.out _).mono ?_
      rintro e wD ⟨rfl, rfl⟩
      have HF7 : Hid (∀ w', MapAt w' ba ga ca W H (fun _ _ => true) → Calls Try.prog 9 #[.pointer (some ⟨ba, 0, none⟩), .int .i64 xx, .int .i64 yy, .int .i64 9223372036854775807, .int .i64 9223372036854775807, .int .i64 0] w' fun e w'' => e = .returned (.int .i64 0) ∧ MapAt w'' ba ga ca W H (fun a e => !decide (xx ≤ a ∧ yy ≤ e)) ∧ Fr (fun k => k = ga) w' w'') := fun w' hm => by
        refine (fill_any ba ga ca W H 0 (fun _ _ => true) xx yy 9223372036854775807 9223372036854775807 w' hm (by omega) (by omega) (by omega) (by omega) (by omega)).mono ?_
        rintro e w'' ⟨he, hm2, hf⟩
        exact ⟨he, hm2.pix (fill_corner xx yy f1 f2), hf⟩
      obtain ⟨C, hC⟩ : ∃ C, C = cnt W H (fun a e => !decide (xx ≤ a ∧ yy ≤ e)) := ⟨_, rfl⟩
      obtain ⟨M, hM⟩ : ∃ M, M = (W - xx) * (H - yy) := ⟨_, rfl⟩
      have hCM : C + M = A := by rw [hC, hM, HAE.out]; exact cnt_corner W H xx yy (by omega) (by omega)
      have HCZ : Hid (∀ w', MapAt w' ba ga ca W H (fun a e => !decide (xx ≤ a ∧ yy ≤ e)) → Calls Try.prog 10 #[.pointer (some ⟨ba, 0, none⟩)] w' fun e w'' => e = .returned (.int .i64 (C : Nat)) ∧ ∃ q, w'' = w'.drewN q) := fun w' hm => by
        have := count_any ba ga ca W H (fun a e => !decide (xx ≤ a ∧ yy ≤ e)) w' hm
        rw [pops_render, ← hC] at this
        exact this
      obtain ⟨U, hU⟩ : ∃ U, U = W - xx := ⟨_, rfl⟩
      obtain ⟨V, hV⟩ : ∃ V, V = H - yy := ⟨_, rfl⟩
      rw [← hU, ← hV] at hM
      have hmu : (U : Int) * (V : Int) = (M : Int) := by rw [hM]; push_cast; rfl
      have u1 : IntKind.i64.wrap ((W : Int) - (xx : Int)) = (U : Int) := by rw [IntKind.wrap_i64]; omega
      have u2 : IntKind.i64.wrap ((H : Int) - (yy : Int)) = (V : Int) := by rw [IntKind.wrap_i64]; omega
      have u3 : IntKind.i64.wrap (M : Int) = (M : Int) := by rw [IntKind.wrap_i64]; omega
      have u4 : IntKind.i64.wrap ((A : Int) - (M : Int)) = (C : Int) := by rw [IntKind.wrap_i64]; omega
      have u5 : ((C : Int) != (C : Int)) = false := by simp
      clear hC hM hCM hU hV HI0 HI1 k0 k1 k6 k7
      go_wp2_with fail
      have HSS : Hid (∀ w', Fr (fun k => k = ga) wD w' → w'.cell? ⟨w.heap.size, 0, none⟩ = some (.int .i64 W) ∧ w'.cell? ⟨w.heap.size, 1, none⟩ = some (.int .i64 H)) := fun w' hf => ⟨(HKX.out w' (HFc.out.trans hf (fun _ _ hh => hh))).1.1, (HKX.out w' (HFc.out.trans hf (fun _ _ hh => hh))).1.2.1⟩
      go_region_held3 (fun w' => w'.cell? ⟨w.heap.size, 0, none⟩ = some (.int .i64 W) ∧ w'.cell? ⟨w.heap.size, 1, none⟩ = some (.int .i64 H)) (exact HSS.out _ (by repeat (first | with_reducible exact Fr.refl _ _ | with_reducible refine Fr.drew ?_ | with_reducible refine Fr.drewN ?_ _ | with_reducible refine Fr.trans ?_ hf40 (fun _ _ hh => hh)))) (first | (go_at_call 10; (have _ := hf40); refine (HCZ.out _ hm40).mono ?_; rintro e wf41 ⟨rfl, q41, rfl⟩; (have hk41 : q41 = q41 := rfl)) | (go_at_call 9; refine (HF7.out _ (HMc.out.kept ((Fr.refl (fun _ => False) _).drew) (fun x => x) (fun x => x))).mono ?_; rintro e wf40 ⟨rfl, hm40, hf40⟩))
      have hfin : Fr (fun k => k = ga) wD _ := ((((Fr.refl (fun k => k = ga) wD).drew).trans hf40 (fun _ _ hh => hh)).drewN q41)
      have hmfin := (hm40.drewN q41)
      generalize (wf40.drewN q41) = wE at hfin hmfin ⊢
      have HFn : Hid (Fr (fun k => k = ga) w3 wE) := HFc.out.trans hfin (fun _ _ hh => hh)
      have HMn : Hid (MapAt wE ba ga ca W H (fun a e => !decide (xx ≤ a ∧ yy ≤ e))) := hmfin
      clear hfin hmfin HSS HFc HMc hf40 hm40 hk41
      have HFc : Hid (Fr (fun k => k = ga) w3 wE) := HFn.out
      have HMc : Hid (MapAt wE ba ga ca W H (fun a e => !decide (xx ≤ a ∧ yy ≤ e))) := HMn.out
      clear HFn HMn
      have HCR : Hid (Calls Try.prog 13 #[.pointer (some ⟨ba, 0, none⟩), .int .i64 9223372036854775807, .int .i64 (-9223372036854775808), .int .i64 3, .int .i64 2] wE fun e w' => ∃ b g, e = .returned (.tuple #[.pointer (some ⟨b, 0, none⟩), .int .i64 0]) ∧ MapAt w' b g (2 * stride 3) 3 2 (fun _ _ => false) ∧ Fr (fun _ => False) wE w') := by
        refine (crop_any ba ga ca W H (fun a e => !decide (xx ≤ a ∧ yy ≤ e)) 9223372036854775807 (-9223372036854775808) 3 2 wE HMc.out (by omega) (by omega) (by omega) (by omega) (by omega)).mono ?_
        rintro e w' ⟨b, g, he, hn⟩
        refine ⟨b, g, he, hn.at_.pix (fun a e _ _ => ?_), hn.fr⟩
        unfold cropPix
        exact getPix_out (by omega)
      clear u1 u2 u3 u4 u5 hmu
      go_wp2_with fail
      refine HCR.out.mono ?_
      rintro e wF ⟨bc, gc, rfl, hmF, hfF⟩
      have HFF : Hid (Fr (fun k => k = ga) w3 wF) := HFc.out.trans hfF (fun _ _ hh => hh.elim)
      have HCC : Hid (Calls Try.prog 10 #[.pointer (some ⟨bc, 0, none⟩)] wF fun e w'' => e = .returned (.int .i64 0) ∧ ∃ q, w'' = wF.drewN q) := by
        have := count_any bc gc (2 * stride 3) 3 2 (fun _ _ => false) wF hmF
        rw [pops_render, cnt_false] at this
        exact this
      clear hmF hfF
      go_wp2_with fail
      refine HCC.out.mono ?_
      rintro e wG ⟨rfl, qG, rfl⟩
      have HFG : Hid (Fr (fun k => k = ga) w3 (wF.drewN qG)) := HFF.out.drewN qG
      generalize wF.drewN qG = wG at *
      go_wp2_with fail
      refine (fill_rect ba 0 0 (-1) 1 1 _ (by omega)).mono ?_
      rintro e wH ⟨rfl, rfl⟩
      go_wp2_with fail
      refine (fill_bit ba 0 0 1 1 2 _ (by omega) (by omega) (by omega)).mono ?_
      rintro e wH ⟨rfl, rfl⟩
      go_wp2_with fail
      refine (blit_nil ba 0 0 1 1 0 0 0 _).mono ?_
      rintro e wH ⟨rfl, rfl⟩
      go_wp2_with fail
      refine (blit_op ba ba 0 0 1 1 0 0 5 _ (by omega) (by omega) (by omega)).mono ?_
      rintro e wI ⟨rfl, hfI⟩
      have HFI : Hid (Fr (fun k => k = ga) w3 wI) := HFG.out.trans hfI (fun _ _ hh => hh.elim)
      clear hfI
      go_wp2_with fail
      refine (wakes_any _).mono ?_
      rintro e wJ ⟨rfl, hfJ⟩
      have HFJ : Hid (Fr (fun _ => False) w wJ) := (HKX.out _ HFI.out).2.trans hfJ (fun _ _ hh => hh)
      clear hfJ
      go_wp2_with fail
      go_ret
      exact ⟨rfl, HFJ.out⟩

end Go.Proofs.Ytcopbjinnegfoab
