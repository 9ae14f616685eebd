/- The law 'ContextPast'. -/
import Derived.Test.YtdgbojlcnkpepaaCp
import Derived.Test.YtdgbojlcnkpepaaRef
import Derived.Test.YtdgbojlcnkpepaaRw
import Derived.Test.YtdgbojlcnkpepaaOpen
namespace Go.Proofs.Ytdgbojlcnkpepaa
open Go.RowKit

/-- All from (x, y) on turned, up to place (i, j). -/
def turned (x y j i : Nat) (P : Nat → Nat → Bool) : Nat → Nat → Bool := fun a e => if (e < j ∨ (e = j ∧ a < i)) ∧ (y < e ∨ (e = y ∧ x ≤ a)) then !P a e else P a e
theorem turned_first (x y : Nat) (P : Nat → Nat → Bool) : turned x y y 0 P = P := by
  funext a e; unfold turned; rw [if_neg (by omega)]
theorem turned_next {x y j i : Nat} (P : Nat → Nat → Bool) (h : y < j ∨ x ≤ i) (hj : y ≤ j) : turned x y j (i + 1) P = putPix (turned x y j i P) i j (!(turned x y j i P i j)) := by
  funext a e
  unfold putPix turned
  by_cases h1 : a = i ∧ e = j
  · obtain ⟨rfl, rfl⟩ := h1
    rw [if_pos (by omega), if_pos (by omega), if_neg (by omega)]
  · rw [if_neg h1]
    by_cases h2 : (e < j ∨ (e = j ∧ a < i)) ∧ (y < e ∨ (e = y ∧ x ≤ a))
    · rw [if_pos h2, if_pos (by omega)]
    · rw [if_neg h2, if_neg (by omega)]
theorem turned_skip {x y j i : Nat} (P : Nat → Nat → Bool) (h : ¬ (y < j ∨ x ≤ i)) (hj : y ≤ j) : turned x y j (i + 1) P = turned x y j i P := by
  funext a e
  unfold turned
  by_cases h2 : (e < j ∨ (e = j ∧ a < i)) ∧ (y < e ∨ (e = y ∧ x ≤ a))
  · rw [if_pos h2, if_pos (by omega)]
  · rw [if_neg h2, if_neg (by omega)]
theorem turned_row {x y j W H : Nat} (P : Nat → Nat → Bool) : ∀ a e, a < W → e < H → turned x y j W P a e = turned x y (j + 1) 0 P a e := fun a e ha _ => by
  unfold turned
  by_cases h2 : (e < j ∨ (e = j ∧ a < W)) ∧ (y < e ∨ (e = y ∧ x ≤ a))
  · rw [if_pos h2, if_pos (by omega)]
  · rw [if_neg h2, if_neg (by omega)]
theorem turned_ctx {x y W H t : Nat} (P : Nat → Nat → Bool) (ht : t < 4) : ctx (pixI W H (turned x y H 0 P)) t x y = ctx (pixI W H P) t x y := by
  refine ctx_congr _ _ t x y ht fun a b hab => ?_
  unfold pixI
  by_cases h : 0 ≤ a ∧ a < W ∧ 0 ≤ b ∧ b < H
  · rw [if_pos h, if_pos h]
    unfold turned
    rw [if_neg (by omega)]
  · rw [if_neg h, if_neg h]

set_option maxRecDepth 100000 in
set_option maxHeartbeats 8000000 in
theorem past_any (x y : Int) (v : Value) (l : List Nat) (t : Int) (ao : Option Addr) (n ca : Nat) (X : Nat → Int) (bo : Option Addr) (m cb : Nat) (Y : Nat → Int) (w : World) (hx : -9223372036854775808 ≤ x ∧ x ≤ 9223372036854775807) (hy : -9223372036854775808 ≤ y ∧ y ≤ 9223372036854775807) (hv : Seen w v l) (hcap : CapOK v) (hlt : ∀ j : Nat, l[j]?.getD 0 < 18446744073709551616) (_ht : -9223372036854775808 ≤ t ∧ t ≤ 9223372036854775807) (hX : IntsAt w ao n X) (hY : IntsAt w bo m Y) :
    Calls Try.prog 5 #[.agg #[.int .i64 x, .int .i64 y, v, .int .i64 t, .slice ao n ca, .slice bo m cb]] w fun e w' => e = .returned (.bool true) ∧ Fr (fun _ => False) w w' := by
  have HMY : Hid (∀ w', Fr (fun _ => False) w w' → Calls Try.prog 8 #[.agg #[.int .i64 x, .int .i64 y, v]] w' fun e w'' => e = .returned (.bool (validB x y l)) ∧ Fr (fun _ => False) w' w'') := fun w' hf => may_any x y v l w' hx hy (hv.kept hf) hlt
  have HV : Hid (validB x y l = true → ∃ (W H : Nat) (P : Nat → Nat → Bool), x = W ∧ y = H ∧ l = render W H P ∧ Bm w v W H P) := fun h => valid_bm h hv hcap hlt
  have HX : Hid (∀ w', Fr (fun _ => False) w w' → IntsAt w' ao n X) := fun w' hf => hX.kept hf
  have HY : Hid (∀ w', Fr (fun _ => False) w w' → IntsAt w' bo m Y) := fun w' hf => hY.kept hf
  have hnl := hX.1
  have hml := hY.1
  obtain ⟨ao0, cap0, rfl, _, _⟩ := hv
  have HBX : Hid (∀ w', Fr (fun _ => False) (w.alloc (.cells #[.int .i64 x, .int .i64 y, .slice ao0 l.length cap0, .int .i64 t, .slice ao n ca, .slice bo m cb] 27)) w' → w'.cell? ⟨w.heap.size, 0, none⟩ = some (.int .i64 x) ∧ w'.cell? ⟨w.heap.size, 1, none⟩ = some (.int .i64 y) ∧ w'.cell? ⟨w.heap.size, 2, none⟩ = some (.slice ao0 l.length cap0) ∧ w'.cell? ⟨w.heap.size, 3, none⟩ = some (.int .i64 t) ∧ w'.cell? ⟨w.heap.size, 4, none⟩ = some (.slice ao n ca) ∧ w'.cell? ⟨w.heap.size, 5, none⟩ = some (.slice bo m cb)) := fun w' hf =>
    cell_of_six (blkOld hf (heap_alloc_new w (.cells #[.int .i64 x, .int .i64 y, .slice ao0 l.length cap0, .int .i64 t, .slice ao n ca, .slice bo m cb] 27)))
  have HA : Hid (Fr (fun _ => False) w (w.alloc (.cells #[.int .i64 x, .int .i64 y, .slice ao0 l.length cap0, .int .i64 t, .slice ao n ca, .slice bo m cb] 27))) := (Fr.refl _ _).alloc _
  clear hcap hlt hx hy hX hY
  go_enter Try.func5, Try.ntmps5
  go_wp2_with fail
  generalize w.alloc (.cells #[.int .i64 x, .int .i64 y, .slice ao0 l.length cap0, .int .i64 t, .slice ao n ca, .slice bo m cb] 27) = w0 at *
  refine (HMY.out _ HA.out).mono ?_
  rintro e w1 ⟨rfl, hf1⟩
  have HF1 : Hid (Fr (fun _ => False) w0 w1) := hf1
  obtain ⟨c0, c1, c2, c3, c4, c5⟩ := HBX.out _ hf1
  clear hf1 HMY
  by_cases hval : validB x y l = true
  · rw [hval]
    obtain ⟨W, H, P, rfl, rfl, rfl, hbm⟩ := HV.out hval
    have HBm : Hid (∀ w', Fr (fun _ => False) w w' → Bm w' (.slice ao0 (render W H P).length cap0) W H P) := fun w' f => hbm.kept f
    obtain ⟨f1, f2, f3⟩ := size_facts hbm.h1 hbm.h2 hbm.h3
    have hmul : (W : Int) * (H : Int) = ((W * H : Nat) : Int) := by push_cast; rfl
    have hWH : W * H ≤ 1048576 := hbm.h3
    obtain ⟨A, hA⟩ : ∃ A, A = W * H := ⟨_, rfl⟩
    have HAE : Hid (A = W * H) := hA
    rw [← hA] at hmul hWH
    have hwm : IntKind.i64.wrap (A : Int) = (A : Int) := by rw [IntKind.wrap_i64]; omega
    have HW : Hid (W ≤ 1048576 ∧ H ≤ 1048576 ∧ 1 ≤ W ∧ 1 ≤ H ∧ W * H ≤ 1048576) := ⟨f1, f2, hbm.h1, hbm.h2, hbm.h3⟩
    clear hbm hval HV f3 hA
    generalize (render W H P).length = nn at *
    by_cases hbig : 8000 < A
    · have hd1 : decide ((8000 : Int) < (A : Int)) = true := decide_eq_true (by omega)
      go_wp2_with fail
      refine (wakes_any _).mono ?_
      rintro e w2 ⟨rfl, hf2⟩
      have HF2 : Hid (Fr (fun _ => False) w w2) := (HA.out.trans HF1.out (fun _ _ h => h)).trans hf2 (fun _ _ h => h)
      clear hf2
      go_wp2_with fail
      go_ret
      exact ⟨rfl, HF2.out⟩
    · have hd1 : decide ((8000 : Int) < (A : Int)) = false := decide_eq_false (by omega)
      by_cases hn0 : n = 0
      · subst hn0
        go_wp2_with fail
        refine (wakes_any _).mono ?_
        rintro e w2 ⟨rfl, hf2⟩
        have HF2 : Hid (Fr (fun _ => False) w w2) := (HA.out.trans HF1.out (fun _ _ h => h)).trans hf2 (fun _ _ h => h)
        clear hf2
        go_wp2_with fail
        go_ret
        exact ⟨rfl, HF2.out⟩
      · have hen : ((n : Int) == 0) = false := by simp; omega
        by_cases hm0 : m = 0
        · subst hm0
          go_wp2_with fail
          refine (wakes_any _).mono ?_
          rintro e w2 ⟨rfl, hf2⟩
          have HF2 : Hid (Fr (fun _ => False) w w2) := (HA.out.trans HF1.out (fun _ _ h => h)).trans hf2 (fun _ _ h => h)
          clear hf2
          go_wp2_with fail
          go_ret
          exact ⟨rfl, HF2.out⟩
        · have hem : ((m : Int) == 0) = false := by simp; omega
          go_wp2_with fail
          refine (small_any w1.heap.size 0 1 1 160000 _ (by omega) (fun i hi => ?_)).mono ?_
          · obtain rfl : i = 0 := by omega
            obtain ⟨_, _, k2, _⟩ := cell_of_three (heap_alloc_new w1 (.cells #[.int .i64 (W : Int), .int .i64 (H : Int), .slice ao0 nn cap0] 24))
            exact ⟨ao0, nn, cap0, k2⟩
          rintro e w3 ⟨bb, rfl, q, hw3⟩
          have HF3 : Hid (Fr (fun _ => False) w0 w3) := by rw [hw3]; exact (HF1.out.alloc _).drewN q
          clear hw3 c0 c1 c2 c3 c4 c5
          cases bb with
          | false =>
            go_wp2_with fail
            refine (wakes_any _).mono ?_
            rintro e w2 ⟨rfl, hf2⟩
            have HF2 : Hid (Fr (fun _ => False) w w2) := (HA.out.trans HF3.out (fun _ _ h => h)).trans hf2 (fun _ _ h => h)
            clear hf2
            go_wp2_with fail
            go_ret
            exact ⟨rfl, HF2.out⟩
          | true =>
            have hn1 : 0 < n := by omega
            have hm1 : 0 < m := by omega
            obtain ⟨bX, oX, rfl, _⟩ := (HX.out w (Fr.refl _ _)).2.1 hn1
            obtain ⟨bY, oY, rfl, _⟩ := (HY.out w (Fr.refl _ _)).2.1 hm1
            obtain ⟨xx, HXX⟩ : ∃ xx : Nat, Hid ((xx : Int) = X 0 % (W : Int) ∧ xx < W) := by
              have h1 := HW.out
              have h2 := Int.emod_nonneg (X 0) (show (W : Int) ≠ 0 by omega)
              have h3 := Int.emod_lt_of_pos (X 0) (show 0 < (W : Int) by omega)
              exact ⟨(X 0 % (W : Int)).toNat, by omega, by omega⟩
            obtain ⟨yy, HYY⟩ : ∃ yy : Nat, Hid ((yy : Int) = Y 0 % (H : Int) ∧ yy < H) := by
              have h1 := HW.out
              have h2 := Int.emod_nonneg (Y 0) (show (H : Int) ≠ 0 by omega)
              have h3 := Int.emod_lt_of_pos (Y 0) (show 0 < (H : Int) by omega)
              exact ⟨(Y 0 % (H : Int)).toNat, by omega, by omega⟩
            have HWX : Hid (∀ w', Calls Try.prog 22 #[.int .i64 (X 0), .int .i64 W] w' fun e w'' => e = .returned (.int .i64 (xx : Nat)) ∧ w'' = w') := fun w' => by rw [HXX.out.1]; exact within_any (X 0) W w' ((HX.out w (Fr.refl _ _)).2.2 0 hn1) HW.out.2.2.1 HW.out.1
            have HWY : Hid (∀ w', Calls Try.prog 22 #[.int .i64 (Y 0), .int .i64 H] w' fun e w'' => e = .returned (.int .i64 (yy : Nat)) ∧ w'' = w') := fun w' => by rw [HYY.out.1]; exact within_any (Y 0) H w' ((HY.out w (Fr.refl _ _)).2.2 0 hm1) HW.out.2.2.2.1 HW.out.2.1
            have HX0 : Hid (∀ w', Fr (fun _ => False) w w' → w'.cell? ⟨bX, oX, none⟩ = some (.int .i64 (X 0))) := fun w' hf => by
              obtain ⟨b, o, e, hc⟩ := (HX.out w' hf).2.1 hn1
              cases e; exact hc 0 hn1
            have HY0 : Hid (∀ w', Fr (fun _ => False) w w' → w'.cell? ⟨bY, oY, none⟩ = some (.int .i64 (Y 0))) := fun w' hf => by
              obtain ⟨b, o, e, hc⟩ := (HY.out w' hf).2.1 hm1
              cases e; exact hc 0 hm1
            have hx0 := HX0.out w3 (HA.out.trans HF3.out (fun _ _ h => h))
            have hy0 := HY0.out w3 (HA.out.trans HF3.out (fun _ _ h => h))
            obtain ⟨c0, c1, c2, c3, c4, c5⟩ := HBX.out _ HF3.out
            generalize X 0 = X0 at *
            generalize Y 0 = Y0 at *
            have HD : Hid (∀ w', Fr (fun _ => False) w0 w' → w'.cell? ⟨w.heap.size, 0, none⟩ = some (.int .i64 W) ∧ w'.cell? ⟨w.heap.size, 1, none⟩ = some (.int .i64 H) ∧ w'.cell? ⟨w.heap.size, 2, none⟩ = some (.slice ao0 nn cap0) ∧ w'.cell? ⟨w.heap.size, 4, none⟩ = some (.slice (some ⟨bX, oX, none⟩) n ca) ∧ w'.cell? ⟨w.heap.size, 5, none⟩ = some (.slice (some ⟨bY, oY, none⟩) m cb) ∧ w'.cell? ⟨bX, oX, none⟩ = some (.int .i64 X0) ∧ w'.cell? ⟨bY, oY, none⟩ = some (.int .i64 Y0)) := fun w' hf => by
              obtain ⟨d0, d1, d2, d3, d4, d5⟩ := HBX.out _ hf
              exact ⟨d0, d1, d2, d4, d5, HX0.out _ (HA.out.trans hf (fun _ _ h => h)), HY0.out _ (HA.out.trans hf (fun _ _ h => h))⟩
            clear hx0 hy0 c0 c1 c2 c3 c4 c5
            obtain ⟨c0, c1, c2, c4, c5, hx0, hy0⟩ := HD.out w3 HF3.out
            go_wp2_with fail
            go_region_held3 (fun w' => w'.cell? ⟨w.heap.size, 0, none⟩ = some (.int .i64 W) ∧ w'.cell? ⟨w.heap.size, 1, none⟩ = some (.int .i64 H) ∧ w'.cell? ⟨w.heap.size, 2, none⟩ = some (.slice ao0 nn cap0) ∧ w'.cell? ⟨w.heap.size, 4, none⟩ = some (.slice (some ⟨bX, oX, none⟩) n ca) ∧ w'.cell? ⟨w.heap.size, 5, none⟩ = some (.slice (some ⟨bY, oY, none⟩) m cb) ∧ w'.cell? ⟨bX, oX, none⟩ = some (.int .i64 X0) ∧ w'.cell? ⟨bY, oY, none⟩ = some (.int .i64 Y0)) (first | exact HD.out _ (HF3.out.drew) | exact HD.out _ (HF3.out.drewN _)) (first | (go_at_call 22; refine (HWX.out _).mono ?_; rintro e w4 ⟨rfl, rfl⟩))
            go_wp2_with fail
            go_region_held3 (fun w' => w'.cell? ⟨w.heap.size, 0, none⟩ = some (.int .i64 W) ∧ w'.cell? ⟨w.heap.size, 1, none⟩ = some (.int .i64 H) ∧ w'.cell? ⟨w.heap.size, 2, none⟩ = some (.slice ao0 nn cap0) ∧ w'.cell? ⟨w.heap.size, 4, none⟩ = some (.slice (some ⟨bX, oX, none⟩) n ca) ∧ w'.cell? ⟨w.heap.size, 5, none⟩ = some (.slice (some ⟨bY, oY, none⟩) m cb) ∧ w'.cell? ⟨bX, oX, none⟩ = some (.int .i64 X0) ∧ w'.cell? ⟨bY, oY, none⟩ = some (.int .i64 Y0)) (first | exact HD.out _ (HF3.out.drew.drew) | exact HD.out _ (HF3.out.drewN _) | exact HD.out _ (HF3.out.drew)) (first | (go_at_call 22; refine (HWY.out _).mono ?_; rintro e w4 ⟨rfl, rfl⟩))
            clear c0 c1 c2 c4 c5 hx0 hy0
            have HF4 : Hid (Fr (fun _ => False) w0 w3.drew.drew) := HF3.out.drew.drew
            obtain ⟨c0, c1, c2, c4, c5, hx0, hy0⟩ := HD.out _ HF4.out
            go_wp2_with fail
            refine (copy_any W H _ P _ (HBm.out _ (HA.out.trans HF4.out (fun _ _ h => h)))).mono ?_
            rintro e w5 ⟨g, cg, rfl, hr5, hf5, hg5⟩
            have HF5 : Hid (Fr (fun _ => False) w0 w5) := HF4.out.trans hf5 (fun _ _ h => h)
            have HG : Hid (w0.heap.size ≤ g ∧ g < w5.heap.size) := ⟨Nat.le_trans HF4.out.size hg5, hr5.lt⟩
            have HR5 : Hid (RowAt w5 g cg W H P) := hr5
            clear hr5 hf5 hg5 c0 c1 c2 c4 c5 hx0 hy0
            obtain ⟨N, HN⟩ : ∃ N, Hid (N = H * stride W) := ⟨_, rfl⟩
            rw [← HN.out]
            go_wp2_with fail
            generalize hw6 : w5.alloc (.cells #[.int .i64 (W : Int), .int .i64 (H : Int), .slice (some ⟨g, 0, none⟩) N cg] 24) = w6 at *
            have HF6 : Hid (Fr (fun _ => False) w0 w6) := by rw [← hw6]; exact HF5.out.alloc _
            have HR6 : Hid (RowAt w6 g cg W H P) := by rw [← hw6]; exact HR5.out.kept ((Fr.refl (fun _ => False) _).alloc _) (fun h => h)
            have HCB : Hid (w6.heap[w5.heap.size]? = some (.cells #[.int .i64 W, .int .i64 H, .slice (some ⟨g, 0, none⟩) N cg] 24 (0, 0))) := by rw [← hw6]; exact heap_alloc_new _ _
            have HG5 : Hid (g < w5.heap.size) := HG.out.2
            clear hw6 HR5
            have HCX : Hid (∀ w', Fr (fun k => k = g) w6 w' → w'.cell? ⟨w5.heap.size, 0, none⟩ = some (.int .i64 W) ∧ w'.cell? ⟨w5.heap.size, 1, none⟩ = some (.int .i64 H) ∧ w'.cell? ⟨w5.heap.size, 2, none⟩ = some (.slice (some ⟨g, 0, none⟩) N cg)) := fun w' hf => by
              have h1 : w'.heap[w5.heap.size]? = some (.cells #[.int .i64 W, .int .i64 H, .slice (some ⟨g, 0, none⟩) N cg] 24 (0, 0)) := (hf.block _ (lt_of_block HCB.out) (by have := HG5.out; omega)).trans HCB.out
              obtain ⟨d0, d1, d2, _⟩ := cell_of_three h1
              exact ⟨d0, d1, d2⟩
            have HFG : Hid (∀ w', Fr (fun k => k = g) w6 w' → Fr (fun _ => False) w0 w') := fun w' hf => HF6.out.trans hf (fun i hi e => by have := HG.out; omega)
            generalize w5.heap.size = bc at *
            go_loopw [6, 7] (fun j _ wr => ∃ J : Nat, yy ≤ J ∧ J ≤ H ∧ j = .int .i64 J ∧ RowAt wr g cg W H (turned xx yy J 0 P) ∧ Fr (fun k => k = g) w6 wr) (fun j _ _ => H - (intOf j).toNat)
            case atStart => exact ⟨yy, by omega, by have := HYY.out.2; omega, rfl, by rw [turned_first]; exact HR6.out, Fr.refl _ _⟩
            case round =>
              obtain ⟨J, hJ1, hJ2, rfl, hrow, hfr⟩ := hrel
              have HRo : Hid (RowAt wr g cg W H (turned xx yy J 0 P)) := hrow
              have HFr : Hid (Fr (fun k => k = g) w6 wr) := hfr
              obtain ⟨c0, c1, c2⟩ := HCX.out _ hfr
              clear hrow hfr
              by_cases hJH : J < H
              · have hdJ : decide (J < H) = true := decide_eq_true hJH
                go_wp2_with fail
                go_loopw [7] (fun i wr => ∃ I : Nat, I ≤ W ∧ i = .int .i64 I ∧ RowAt wr g cg W H (turned xx yy J I P) ∧ Fr (fun k => k = g) w6 wr) (fun i _ => W - (intOf i).toNat)
                case atStart => exact ⟨0, by omega, rfl, HRo.out, HFr.out⟩
                case round =>
                  obtain ⟨I, hI, rfl, hrow, hfr⟩ := hrel
                  have HRi : Hid (RowAt wr g cg W H (turned xx yy J I P)) := hrow
                  have HFi : Hid (Fr (fun k => k = g) w6 wr) := hfr
                  clear c0 c1 c2
                  obtain ⟨c0, c1, c2⟩ := HCX.out _ hfr
                  clear hrow hfr
                  by_cases hIW : I < W
                  · have hdI : decide (I < W) = true := decide_eq_true hIW
                    by_cases hfl : yy < J ∨ xx ≤ I
                    · have HSe : Hid (∀ w', Fr (fun _ => False) wr w' → Calls Try.prog 25 #[.agg #[.int .i64 W, .int .i64 H, .slice (some ⟨g, 0, none⟩) N cg], .int .i64 I, .int .i64 J] w' fun e w'' => e = .returned (.int .i64 ((turned xx yy J I P I J).toNat : Nat)) ∧ Fr (fun _ => False) w' w'') := fun w' hf => by
                        have h1 := HW.out
                        have h2 := (HRi.out.kept hf (fun h => h)).seen (size_facts h1.2.2.1 h1.2.2.2.1 h1.2.2.2.2).2.2
                        rw [HN.out]
                        exact zget_in W H _ (turned xx yy J I P) I J w' h2 h1.2.2.1 h1.2.2.2.1 h1.2.2.2.2 hIW hJH
                      have HPu : Hid (∀ w', Fr (fun _ => False) wr w' → Calls Try.prog 24 #[.agg #[.int .i64 W, .int .i64 H, .slice (some ⟨g, 0, none⟩) N cg], .int .i64 I, .int .i64 J, .int .i64 ((!(turned xx yy J I P I J)).toNat : Nat)] w' fun e w'' => e = .returned (.tuple #[]) ∧ RowAt w'' g cg W H (turned xx yy J (I + 1) P) ∧ Fr (fun k => k = g) w' w'') := fun w' hf => by
                        have h1 := HW.out
                        rw [HN.out, turned_next P hfl hJ1]
                        exact zput_any W H g cg (turned xx yy J I P) I J (!(turned xx yy J I P I J)) w' (HRi.out.kept hf (fun h => h)) h1.2.2.1 h1.2.2.2.1 h1.2.2.2.2 hIW hJH
                      have hwb : IntKind.i64.wrap (1 - ((turned xx yy J I P I J).toNat : Int)) = ((!(turned xx yy J I P I J)).toNat : Int) := by cases turned xx yy J I P I J <;> decide +kernel
                      generalize (turned xx yy J I P I J).toNat = pn at *
                      generalize (!(turned xx yy J I P I J)).toNat = qn at *
                      have HCI : Hid (∀ w', Fr (fun k => k = g) wr w' → w'.cell? ⟨bc, 0, none⟩ = some (.int .i64 W) ∧ w'.cell? ⟨bc, 1, none⟩ = some (.int .i64 H) ∧ w'.cell? ⟨bc, 2, none⟩ = some (.slice (some ⟨g, 0, none⟩) N cg)) := fun w' hf => HCX.out _ (HFi.out.trans hf (fun _ _ h => h))
                      rcases (show yy < J ∨ (¬ yy < J ∧ xx ≤ I) by omega) with hA1 | ⟨hA1, hA2⟩
                      · have hd3 : decide (yy < J) = true := decide_eq_true hA1
                        clear hfl
                        go_wp2_with fail
                        go_region_held3 (fun w' => w'.cell? ⟨bc, 0, none⟩ = some (.int .i64 W) ∧ w'.cell? ⟨bc, 1, none⟩ = some (.int .i64 H) ∧ w'.cell? ⟨bc, 2, none⟩ = some (.slice (some ⟨g, 0, none⟩) N cg)) (exact HCI.out _ (by repeat (first | with_reducible exact Fr.refl _ _ | with_reducible refine Fr.drew ?_ | with_reducible refine Fr.trans ?_ hf8 (fun _ _ hh => hh) | with_reducible refine Fr.trans ?_ hf7 (fun _ _ hh => hh.elim)))) (first | (go_at_call 25; refine (HSe.out _ (by first | exact (Fr.refl _ _).drew | exact Fr.refl _ _)).mono ?_; rintro e w7 ⟨rfl, hf7⟩) | (go_at_call 24; refine (HPu.out _ (by first | exact ((Fr.refl _ _).drew.trans hf7 (fun _ _ hh => hh)))).mono ?_; rintro e w8 ⟨rfl, hr8, hf8⟩))
                        all_goals go_wp2_with fail
                        all_goals go_roundw
                        all_goals first
                          | exact ⟨I + 1, by omega, congrArg (Value.int .i64) (by omega), hr8, HFi.out.trans (((Fr.refl (fun k => k = g) wr).drew.trans hf7 (fun _ _ hh => hh.elim)).trans hf8 (fun _ _ hh => hh)) (fun _ _ hh => hh)⟩
                          | (simp [intOf]; omega)
                      · have hd3 : decide (yy < J) = false := decide_eq_false hA1
                        have hd4 : decide (xx ≤ I) = true := decide_eq_true hA2
                        clear hfl
                        go_wp2_with fail
                        go_region_held3 (fun w' => w'.cell? ⟨bc, 0, none⟩ = some (.int .i64 W) ∧ w'.cell? ⟨bc, 1, none⟩ = some (.int .i64 H) ∧ w'.cell? ⟨bc, 2, none⟩ = some (.slice (some ⟨g, 0, none⟩) N cg)) (exact HCI.out _ (by repeat (first | with_reducible exact Fr.refl _ _ | with_reducible refine Fr.drew ?_ | with_reducible refine Fr.trans ?_ hf8 (fun _ _ hh => hh) | with_reducible refine Fr.trans ?_ hf7 (fun _ _ hh => hh.elim)))) (first | (go_at_call 25; refine (HSe.out _ (by first | exact (Fr.refl _ _).drew | exact Fr.refl _ _)).mono ?_; rintro e w7 ⟨rfl, hf7⟩) | (go_at_call 24; refine (HPu.out _ (by first | exact ((Fr.refl _ _).drew.trans hf7 (fun _ _ hh => hh)))).mono ?_; rintro e w8 ⟨rfl, hr8, hf8⟩))
                        all_goals go_wp2_with fail
                        all_goals go_roundw
                        all_goals first
                          | exact ⟨I + 1, by omega, congrArg (Value.int .i64) (by omega), hr8, HFi.out.trans (((Fr.refl (fun k => k = g) wr).drew.trans hf7 (fun _ _ hh => hh.elim)).trans hf8 (fun _ _ hh => hh)) (fun _ _ hh => hh)⟩
                          | (simp [intOf]; omega)
                    · have hd3 : decide (yy < J) = false := decide_eq_false (by omega)
                      have hd4 : decide (xx ≤ I) = false := decide_eq_false (by omega)
                      have HNx : Hid (RowAt wr g cg W H (turned xx yy J (I + 1) P)) := by rw [turned_skip P hfl hJ1]; exact HRi.out
                      go_wp2_with fail
                      go_roundw
                      case rel => exact ⟨I + 1, by omega, congrArg (Value.int .i64) (by omega), HNx.out, HFi.out⟩
                      case measure => simp [intOf]; omega
                  · obtain rfl : I = W := by omega
                    have hdI : decide (I < I) = false := decide_eq_false (by omega)
                    go_wp2_with fail
                    go_roundw
                    case rel => exact ⟨J + 1, by omega, by omega, congrArg (Value.int .i64) (by omega), by unfold RowAt; rw [← render_congr (turned_row P)]; exact HRi.out, HFi.out⟩
                    case measure => simp [intOf]; omega
              · obtain rfl : H = J := by omega
                have hdJ : decide (H < H) = false := decide_eq_false (by omega)
                have HBc : Hid (∀ w', Fr (fun _ => False) wr w' → Bm w' (.slice (some ⟨g, 0, none⟩) N cg) W H (turned xx yy H 0 P)) := fun w' hf => by
                  have h1 := HW.out
                  rw [HN.out]
                  exact (Bm.of_row HRo.out h1.2.2.1 h1.2.2.2.1 h1.2.2.2.2).kept hf
                have HBX2 : Hid (∀ w', Fr (fun _ => False) wr w' → (w'.cell? ⟨w.heap.size, 0, none⟩ = some (.int .i64 W) ∧ w'.cell? ⟨w.heap.size, 1, none⟩ = some (.int .i64 H) ∧ w'.cell? ⟨w.heap.size, 2, none⟩ = some (.slice ao0 nn cap0)) ∧ w'.cell? ⟨bc, 0, none⟩ = some (.int .i64 W) ∧ w'.cell? ⟨bc, 1, none⟩ = some (.int .i64 H) ∧ w'.cell? ⟨bc, 2, none⟩ = some (.slice (some ⟨g, 0, none⟩) N cg)) := fun w' hf => by
                  obtain ⟨d0, d1, d2, d3, d4, d5⟩ := HBX.out _ ((HFG.out _ HFr.out).trans hf (fun _ _ h => h))
                  exact ⟨⟨d0, d1, d2⟩, HCX.out _ (HFr.out.trans hf (fun _ _ h => h.elim))⟩
                have HBp : Hid (∀ w', Fr (fun _ => False) wr w' → Bm w' (.slice ao0 nn cap0) W H P) := fun w' hf => HBm.out _ (HA.out.trans ((HFG.out _ HFr.out).trans hf (fun _ _ h => h)) (fun _ _ h => h))
                have HFz : Hid (Fr (fun _ => False) w wr) := HA.out.trans (HFG.out _ HFr.out) (fun _ _ h => h)
                obtain ⟨wz, hwz⟩ : ∃ wz, wz = wr := ⟨_, rfl⟩
                subst hwz
                go_wp2_with fail
                clear c0 c1 c2
                go_loopw [8, 9, 10, 11, 12, 13, 14] (fun t _ _ _ _ _ _ wr => ∃ k : Nat, k ≤ 4 ∧ t = .int .i64 k ∧ Fr (fun _ => False) wz wr) (fun t _ _ _ _ _ _ _ => 4 - (intOf t).toNat)
                case atStart => exact ⟨0, by omega, rfl, Fr.refl _ _⟩
                case round =>
                  obtain ⟨k, hk, rfl, hfr⟩ := hrel
                  have HFt : Hid (Fr (fun _ => False) wz wr) := hfr
                  obtain ⟨⟨c0, c1, c2⟩, d0, d1, d2⟩ := HBX2.out _ hfr
                  clear hfr
                  by_cases ht4 : k < 4
                  · have HT : Hid (k < 4) := ht4
                    have HXY : Hid (xx < W ∧ yy < H) := ⟨HXX.out.2, HYY.out.2⟩
                    have HA1 : Hid (Calls Try.prog 14 #[.agg #[.int .i64 W, .int .i64 H, .slice ao0 nn cap0], .int .i64 k, .int .i64 xx, .int .i64 yy] wr fun e w'' => e = .returned (.tuple #[.int .i64 (ctx (pixI W H P) k xx yy : Nat), .int .i64 0]) ∧ Fr (fun _ => False) wr w'') := at_ok W H _ P k xx yy wr (HBp.out _ HFt.out) HT.out (by have := HW.out; have := HXY.out; omega) (by have := HW.out; have := HXY.out; omega)
                    have HA2 : Hid (∀ w', Fr (fun _ => False) wz w' → Calls Try.prog 14 #[.agg #[.int .i64 W, .int .i64 H, .slice (some ⟨g, 0, none⟩) N cg], .int .i64 k, .int .i64 xx, .int .i64 yy] w' fun e w'' => e = .returned (.tuple #[.int .i64 (ctx (pixI W H P) k xx yy : Nat), .int .i64 0]) ∧ Fr (fun _ => False) w' w'') := fun w' hf => by
                      have h := at_ok W H _ (turned xx yy H 0 P) k xx yy w' (HBc.out _ hf) HT.out (by have := HW.out; have := HXY.out; omega) (by have := HW.out; have := HXY.out; omega)
                      rw [turned_ctx P HT.out] at h
                      exact h
                    have HA3 : Hid (∀ w', Fr (fun _ => False) wz w' → Calls Try.prog 15 #[.agg #[.int .i64 W, .int .i64 H, .slice (some ⟨g, 0, none⟩) N cg], .int .i64 k, .int .i64 yy] w' fun e w'' => (∃ gr, e = .returned (.tuple #[.slice (some ⟨gr, 0, none⟩) W W, .int .i64 0]) ∧ w''.cell? ⟨gr, xx, none⟩ = some (.int .i64 (ctx (pixI W H P) k xx yy : Nat))) ∧ Fr (fun _ => False) w' w'') := fun w' hf => by
                      refine (row_ok W H _ (turned xx yy H 0 P) k yy w' (HBc.out _ hf) HT.out HXY.out.2).mono ?_
                      rintro e w'' ⟨gr, rfl, hr, _, hf2⟩
                      refine ⟨⟨gr, rfl, ?_⟩, hf2⟩
                      have h := hr.get HXY.out.1
                      rwa [turned_ctx P HT.out] at h
                    have hxW : xx < W := HXY.out.1
                    generalize ctx (pixI W H P) k xx yy = cv0 at *
                    go_wp2_with fail
                    refine HA1.out.mono ?_
                    rintro e w7 ⟨rfl, hf7⟩
                    have HF7 : Hid (Fr (fun _ => False) wz w7) := HFt.out.trans hf7 (fun _ _ h => h)
                    clear c0 c1 c2 d0 d1 d2 hf7
                    obtain ⟨⟨c0, c1, c2⟩, d0, d1, d2⟩ := HBX2.out _ HF7.out
                    go_wp2_with fail
                    refine (HA2.out _ HF7.out).mono ?_
                    rintro e w8 ⟨rfl, hf8⟩
                    have HF8 : Hid (Fr (fun _ => False) wz w8) := HF7.out.trans hf8 (fun _ _ h => h)
                    clear c0 c1 c2 d0 d1 d2 hf8
                    obtain ⟨⟨c0, c1, c2⟩, d0, d1, d2⟩ := HBX2.out _ HF8.out
                    go_wp2_with fail
                    refine (HA3.out _ HF8.out).mono ?_
                    rintro e w9 ⟨⟨gr, rfl, hcell⟩, hf9⟩
                    have HF9 : Hid (Fr (fun _ => False) wz w9) := HF8.out.trans hf9 (fun _ _ h => h)
                    clear c0 c1 c2 d0 d1 d2 hf9
                    obtain ⟨⟨c0, c1, c2⟩, d0, d1, d2⟩ := HBX2.out _ HF9.out
                    have hne1 : ((cv0 : Int) != (cv0 : Int)) = false := by simp
                    have hne2 : ((W : Int) != (W : Int)) = false := by simp
                    go_wp2_with fail
                    go_roundw
                    case rel => exact ⟨k + 1, by omega, congrArg (Value.int .i64) (by omega), HF9.out⟩
                    case measure => simp [intOf]; omega
                  · obtain rfl : k = 4 := by omega
                    go_wp2_with fail
                    refine (wakes_any _).mono ?_
                    rintro e w7 ⟨rfl, hf7⟩
                    have HF7 : Hid (Fr (fun _ => False) w w7) := (HFz.out.trans HFt.out (fun _ _ h => h)).trans hf7 (fun _ _ h => h)
                    clear hf7
                    go_wp2_with fail
                    go_ret
                    exact ⟨rfl, HF7.out⟩
  · rw [show validB x y l = false by simpa using hval]
    go_wp2_with fail
    refine (wakes_any _).mono ?_
    rintro e w2 ⟨rfl, hf2⟩
    have HF2 : Hid (Fr (fun _ => False) w w2) := (HA.out.trans HF1.out (fun _ _ h => h)).trans hf2 (fun _ _ h => h)
    clear hf2
    go_wp2_with fail
    go_ret
    exact ⟨rfl, HF2.out⟩

end Go.Proofs.Ytdgbojlcnkpepaa
