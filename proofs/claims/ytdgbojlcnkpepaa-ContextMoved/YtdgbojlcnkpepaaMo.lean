/- The law 'ContextMoved'. -/
import Derived.Test.YtdgbojlcnkpepaaLy
import Derived.Test.YtdgbojlcnkpepaaRw
import Derived.Test.YtdgbojlcnkpepaaOpen
namespace Go.Proofs.Ytdgbojlcnkpepaa
open Go.RowKit

/-- The picture goes with its place. -/
theorem laid_pix (dx dy W H V U : Nat) (P : Nat → Nat → Bool) (h1 : dx + W ≤ V) (h2 : dy + H ≤ U) (a b : Int) : pixI V U (laidTo dx dy W H 0 P (fun _ _ => false)) (a + (dx : Int)) (b + (dy : Int)) = pixI W H P a b := by
  unfold pixI
  by_cases h : 0 ≤ a ∧ a < W ∧ 0 ≤ b ∧ b < H
  · rw [if_pos h, if_pos (by omega)]
    unfold laidTo
    rw [if_pos (by omega), show (a + (dx : Int)).toNat - dx = a.toNat by omega, show (b + (dy : Int)).toNat - dy = b.toNat by omega]
  · rw [if_neg h]
    by_cases h3 : 0 ≤ a + (dx : Int) ∧ a + (dx : Int) < V ∧ 0 ≤ b + (dy : Int) ∧ b + (dy : Int) < U
    · rw [if_pos h3]
      unfold laidTo
      rw [if_neg (by omega)]; rfl
    · rw [if_neg h3]
theorem laid_ctx (dx dy W H V U t : Nat) (P : Nat → Nat → Bool) (h1 : dx + W ≤ V) (h2 : dy + H ≤ U) (x y : Int) : ctx (pixI V U (laidTo dx dy W H 0 P (fun _ _ => false))) t (x + (dx : Int)) (y + (dy : Int)) = ctx (pixI W H P) t x y :=
  ctx_moved _ _ t x y dx dy (laid_pix dx dy W H V U P h1 h2)
theorem room_le (W H A dx dy V U : Nat) (h0 : A = W * H) (hA : A ≤ 8000) (hW : 1 ≤ W) (hH : 1 ≤ H) (hx : dx < 70) (hy : dy < 5) (hV : V = W + dx + 2) (hU : U = H + dy + 1) : V * U ≤ 1048576 := by
  have a1 : W * 1 ≤ W * H := Nat.mul_le_mul_left _ hH
  have a2 : 1 * H ≤ W * H := Nat.mul_le_mul_right _ hW
  have e : V * U = W * H + W * (dy + 1) + (dx + 2) * H + (dx + 2) * (dy + 1) := by
    rw [hV, hU, show W + dx + 2 = W + (dx + 2) by omega, show H + dy + 1 = H + (dy + 1) by omega]
    generalize dx + 2 = p
    generalize dy + 1 = q
    rw [Nat.add_mul, Nat.mul_add, Nat.mul_add, ← Nat.add_assoc]
  have b1 : W * (dy + 1) ≤ 8000 * 5 := Nat.mul_le_mul (by omega) (by omega)
  have b2 : (dx + 2) * H ≤ 71 * 8000 := Nat.mul_le_mul (by omega) (by omega)
  have b3 : (dx + 2) * (dy + 1) ≤ 71 * 5 := Nat.mul_le_mul (by omega) (by omega)
  omega

set_option maxRecDepth 100000 in
set_option maxHeartbeats 8000000 in
theorem moved_any (x y : Int) (v : Value) (l : List Nat) (t : Int) (ao : Option Addr) (n ca : Nat) (X : Nat → Int) (bo : Option Addr) (m cb : Nat) (Y : Nat → Int) (w : World) (hx : -9223372036854775808 ≤ x ∧ x ≤ 9223372036854775807) (hy : -9223372036854775808 ≤ y ∧ y ≤ 9223372036854775807) (hv : Seen w v l) (hcap : CapOK v) (hlt : ∀ j : Nat, l[j]?.getD 0 < 18446744073709551616) (_ht : -9223372036854775808 ≤ t ∧ t ≤ 9223372036854775807) (hX : IntsAt w ao n X) (hY : IntsAt w bo m Y) :
    Calls Try.prog 6 #[.agg #[.int .i64 x, .int .i64 y, v, .int .i64 t, .slice ao n ca, .slice bo m cb]] w fun e w' => e = .returned (.bool true) ∧ Fr (fun _ => False) w w' := by
  have HMY : Hid (∀ w', Fr (fun _ => False) w w' → Calls Try.prog 8 #[.agg #[.int .i64 x, .int .i64 y, v]] w' fun e w'' => e = .returned (.bool (validB x y l)) ∧ Fr (fun _ => False) w' w'') := fun w' hf => may_any x y v l w' hx hy (hv.kept hf) hlt
  have HV : Hid (validB x y l = true → ∃ (W H : Nat) (P : Nat → Nat → Bool), x = W ∧ y = H ∧ l = render W H P ∧ Bm w v W H P) := fun h => valid_bm h hv hcap hlt
  have HX : Hid (∀ w', Fr (fun _ => False) w w' → IntsAt w' ao n X) := fun w' hf => hX.kept hf
  have HY : Hid (∀ w', Fr (fun _ => False) w w' → IntsAt w' bo m Y) := fun w' hf => hY.kept hf
  have hnl := hX.1
  have hml := hY.1
  obtain ⟨ao0, cap0, rfl, _, _⟩ := hv
  have HBX : Hid (∀ w', Fr (fun _ => False) (w.alloc (.cells #[.int .i64 x, .int .i64 y, .slice ao0 l.length cap0, .int .i64 t, .slice ao n ca, .slice bo m cb] 27)) w' → w'.cell? ⟨w.heap.size, 0, none⟩ = some (.int .i64 x) ∧ w'.cell? ⟨w.heap.size, 1, none⟩ = some (.int .i64 y) ∧ w'.cell? ⟨w.heap.size, 2, none⟩ = some (.slice ao0 l.length cap0) ∧ w'.cell? ⟨w.heap.size, 3, none⟩ = some (.int .i64 t) ∧ w'.cell? ⟨w.heap.size, 4, none⟩ = some (.slice ao n ca) ∧ w'.cell? ⟨w.heap.size, 5, none⟩ = some (.slice bo m cb)) := fun w' hf =>
    cell_of_six (blkOld hf (heap_alloc_new w (.cells #[.int .i64 x, .int .i64 y, .slice ao0 l.length cap0, .int .i64 t, .slice ao n ca, .slice bo m cb] 27)))
  have HA : Hid (Fr (fun _ => False) w (w.alloc (.cells #[.int .i64 x, .int .i64 y, .slice ao0 l.length cap0, .int .i64 t, .slice ao n ca, .slice bo m cb] 27))) := (Fr.refl _ _).alloc _
  clear hcap hlt hx hy hX hY
  go_enter Try.func6, Try.ntmps6
  go_wp2_with fail
  generalize w.alloc (.cells #[.int .i64 x, .int .i64 y, .slice ao0 l.length cap0, .int .i64 t, .slice ao n ca, .slice bo m cb] 27) = w0 at *
  refine (HMY.out _ HA.out).mono ?_
  rintro e w1 ⟨rfl, hf1⟩
  have HF1 : Hid (Fr (fun _ => False) w0 w1) := hf1
  obtain ⟨c0, c1, c2, c3, c4, c5⟩ := HBX.out _ hf1
  clear hf1 HMY
  by_cases hval : validB x y l = true
  · rw [hval]
    obtain ⟨W, H, P, rfl, rfl, rfl, hbm⟩ := HV.out hval
    have HBm : Hid (∀ w', Fr (fun _ => False) w w' → Bm w' (.slice ao0 (render W H P).length cap0) W H P) := fun w' f => hbm.kept f
    obtain ⟨f1, f2, f3⟩ := size_facts hbm.h1 hbm.h2 hbm.h3
    have hmul : (W : Int) * (H : Int) = ((W * H : Nat) : Int) := by push_cast; rfl
    have hWH : W * H ≤ 1048576 := hbm.h3
    obtain ⟨A, hA⟩ : ∃ A, A = W * H := ⟨_, rfl⟩
    have HAE : Hid (A = W * H) := hA
    rw [← hA] at hmul hWH
    have hwm : IntKind.i64.wrap (A : Int) = (A : Int) := by rw [IntKind.wrap_i64]; omega
    have HW : Hid (W ≤ 1048576 ∧ H ≤ 1048576 ∧ 1 ≤ W ∧ 1 ≤ H ∧ W * H ≤ 1048576) := ⟨f1, f2, hbm.h1, hbm.h2, hbm.h3⟩
    clear hbm hval HV f3 hA
    generalize (render W H P).length = nn at *
    by_cases hbig : 8000 < A
    · have hd1 : decide ((8000 : Int) < (A : Int)) = true := decide_eq_true (by omega)
      go_wp2_with fail
      refine (wakes_any _).mono ?_
      rintro e w2 ⟨rfl, hf2⟩
      have HF2 : Hid (Fr (fun _ => False) w w2) := (HA.out.trans HF1.out (fun _ _ h => h)).trans hf2 (fun _ _ h => h)
      clear hf2
      go_wp2_with fail
      go_ret
      exact ⟨rfl, HF2.out⟩
    · have hd1 : decide ((8000 : Int) < (A : Int)) = false := decide_eq_false (by omega)
      by_cases hn0 : n = 0
      · subst hn0
        go_wp2_with fail
        refine (wakes_any _).mono ?_
        rintro e w2 ⟨rfl, hf2⟩
        have HF2 : Hid (Fr (fun _ => False) w w2) := (HA.out.trans HF1.out (fun _ _ h => h)).trans hf2 (fun _ _ h => h)
        clear hf2
        go_wp2_with fail
        go_ret
        exact ⟨rfl, HF2.out⟩
      · have hen : ((n : Int) == 0) = false := by simp; omega
        by_cases hm0 : m = 0
        · subst hm0
          go_wp2_with fail
          refine (wakes_any _).mono ?_
          rintro e w2 ⟨rfl, hf2⟩
          have HF2 : Hid (Fr (fun _ => False) w w2) := (HA.out.trans HF1.out (fun _ _ h => h)).trans hf2 (fun _ _ h => h)
          clear hf2
          go_wp2_with fail
          go_ret
          exact ⟨rfl, HF2.out⟩
        · have hem : ((m : Int) == 0) = false := by simp; omega
          go_wp2_with fail
          refine (small_any w1.heap.size 0 1 1 160000 _ (by omega) (fun i hi => ?_)).mono ?_
          · obtain rfl : i = 0 := by omega
            obtain ⟨_, _, k2, _⟩ := cell_of_three (heap_alloc_new w1 (.cells #[.int .i64 (W : Int), .int .i64 (H : Int), .slice ao0 nn cap0] 24))
            exact ⟨ao0, nn, cap0, k2⟩
          rintro e w3 ⟨bb, rfl, q, hw3⟩
          have HF3 : Hid (Fr (fun _ => False) w0 w3) := by rw [hw3]; exact (HF1.out.alloc _).drewN q
          clear hw3 c0 c1 c2 c3 c4 c5
          cases bb with
          | false =>
            go_wp2_with fail
            refine (wakes_any _).mono ?_
            rintro e w2 ⟨rfl, hf2⟩
            have HF2 : Hid (Fr (fun _ => False) w w2) := (HA.out.trans HF3.out (fun _ _ h => h)).trans hf2 (fun _ _ h => h)
            clear hf2
            go_wp2_with fail
            go_ret
            exact ⟨rfl, HF2.out⟩
          | true =>
            have hn1 : 0 < n := by omega
            have hm1 : 0 < m := by omega
            obtain ⟨bX, oX, rfl, _⟩ := (HX.out w (Fr.refl _ _)).2.1 hn1
            obtain ⟨bY, oY, rfl, _⟩ := (HY.out w (Fr.refl _ _)).2.1 hm1
            obtain ⟨dx, HDX⟩ : ∃ dx : Nat, Hid ((dx : Int) = X 0 % 70 ∧ dx < 70) := by
              exact ⟨(X 0 % 70).toNat, by omega, by omega⟩
            obtain ⟨dy, HDY⟩ : ∃ dy : Nat, Hid ((dy : Int) = Y 0 % 5 ∧ dy < 5) := by
              exact ⟨(Y 0 % 5).toNat, by omega, by omega⟩
            have HWX : Hid (∀ w', Calls Try.prog 22 #[.int .i64 (X 0), .int .i64 70] w' fun e w'' => e = .returned (.int .i64 (dx : Nat)) ∧ w'' = w') := fun w' => by rw [HDX.out.1]; exact within_any (X 0) 70 w' ((HX.out w (Fr.refl _ _)).2.2 0 hn1) (by omega) (by omega)
            have HWY : Hid (∀ w', Calls Try.prog 22 #[.int .i64 (Y 0), .int .i64 5] w' fun e w'' => e = .returned (.int .i64 (dy : Nat)) ∧ w'' = w') := fun w' => by rw [HDY.out.1]; exact within_any (Y 0) 5 w' ((HY.out w (Fr.refl _ _)).2.2 0 hm1) (by omega) (by omega)
            have HXi : Hid (∀ w', Fr (fun _ => False) w w' → ∀ i, i < n → w'.cell? ⟨bX, oX + i, none⟩ = some (.int .i64 (X i))) := fun w' hf i hi => by
              obtain ⟨b, o, e, hc⟩ := (HX.out w' hf).2.1 hn1
              cases e; exact hc i hi
            have HYi : Hid (∀ w', Fr (fun _ => False) w w' → ∀ i, i < m → w'.cell? ⟨bY, oY + i, none⟩ = some (.int .i64 (Y i))) := fun w' hf i hi => by
              obtain ⟨b, o, e, hc⟩ := (HY.out w' hf).2.1 hm1
              cases e; exact hc i hi
            have HXb : Hid ((∀ i, i < n → -9223372036854775808 ≤ X i ∧ X i ≤ 9223372036854775807) ∧ ∀ i, i < m → -9223372036854775808 ≤ Y i ∧ Y i ≤ 9223372036854775807) := ⟨(HX.out w (Fr.refl _ _)).2.2, (HY.out w (Fr.refl _ _)).2.2⟩
            have hx0 := HXi.out w3 (HA.out.trans HF3.out (fun _ _ h => h)) 0 hn1
            have hy0 := HYi.out w3 (HA.out.trans HF3.out (fun _ _ h => h)) 0 hm1
            rw [Nat.add_zero] at hx0 hy0
            obtain ⟨c0, c1, c2, c3, c4, c5⟩ := HBX.out _ HF3.out
            obtain ⟨V, HV⟩ : ∃ V, Hid (V = W + dx + 2) := ⟨_, rfl⟩
            obtain ⟨U, HU⟩ : ∃ U, Hid (U = H + dy + 1) := ⟨_, rfl⟩
            have HVU : Hid (V * U ≤ 1048576) := room_le W H A dx dy V U HAE.out (by omega) HW.out.2.2.1 HW.out.2.2.2.1 HDX.out.2 HDY.out.2 HV.out HU.out
            have hw1 : IntKind.i64.wrap ((W : Int) + (dx : Int)) = (W : Int) + (dx : Int) := by rw [IntKind.wrap_i64]; have := HW.out; have := HDX.out; omega
            have hw2 : IntKind.i64.wrap ((W : Int) + (dx : Int) + 2) = (V : Int) := by rw [IntKind.wrap_i64]; have := HW.out; have := HDX.out; have := HV.out; omega
            have hw3 : IntKind.i64.wrap ((H : Int) + (dy : Int)) = (H : Int) + (dy : Int) := by rw [IntKind.wrap_i64]; have := HW.out; have := HDY.out; omega
            have hw4 : IntKind.i64.wrap ((H : Int) + (dy : Int) + 1) = (U : Int) := by rw [IntKind.wrap_i64]; have := HW.out; have := HDY.out; have := HU.out; omega
            go_wp2_with fail
            refine (HWX.out _).mono ?_
            rintro e w4 ⟨rfl, hw⟩
            obtain rfl := hw.symm
            go_wp2_with fail
            refine (HWY.out _).mono ?_
            rintro e w4 ⟨rfl, hw⟩
            obtain rfl := hw.symm
            go_wp2_with fail
            refine (zwhite_any V U w3 (by have := HV.out; omega) (by have := HU.out; omega) HVU.out).mono ?_
            rintro e w5 ⟨g, rfl, hr5, hf5, hg5⟩
            have HF5 : Hid (Fr (fun _ => False) w0 w5) := HF3.out.trans hf5 (fun _ _ h => h)
            have HG : Hid (w0.heap.size ≤ g ∧ g < w5.heap.size ∧ w.heap.size ≤ w0.heap.size) := ⟨Nat.le_trans HF3.out.size hg5, hr5.lt, HA.out.size⟩
            obtain ⟨N, HN⟩ : ∃ N, Hid (N = U * stride V) := ⟨_, rfl⟩
            have HR5 : Hid (RowAt w5 g N V U (fun _ _ => false)) := by rw [HN.out]; exact hr5
            rw [← HN.out]
            clear hr5 hf5 hg5 c0 c1 c2 c3 c4 c5 hx0 hy0 hw1 hw2 hw3 hw4
            generalize hw6 : w5.alloc (.cells #[.int .i64 (V : Int), .int .i64 (U : Int), .slice (some ⟨g, 0, none⟩) N N] 24) = w6
            have HF6 : Hid (Fr (fun _ => False) w0 w6) := by rw [← hw6]; exact HF5.out.alloc _
            have HR6 : Hid (RowAt w6 g N V U (fun _ _ => false)) := by rw [← hw6]; exact HR5.out.kept ((Fr.refl (fun _ => False) _).alloc _) (fun h => h)
            have HCB : Hid (w6.heap[w5.heap.size]? = some (.cells #[.int .i64 V, .int .i64 U, .slice (some ⟨g, 0, none⟩) N N] 24 (0, 0))) := by rw [← hw6]; exact heap_alloc_new _ _
            have HL : Hid (Calls Try.prog 27 #[.agg #[.int .i64 V, .int .i64 U, .slice (some ⟨g, 0, none⟩) N N], .int .i64 dx, .int .i64 dy, .int .i64 4, .agg #[.int .i64 W, .int .i64 H, .slice ao0 nn cap0]] w6 fun e w' => e = .returned (.tuple #[]) ∧ RowAt w' g N V U (laidTo dx dy W H 0 P (fun _ _ => false)) ∧ Fr (fun k => k = g) w6 w') := by
              have h := lay_any V U g N (fun _ _ => false) dx dy W H (.slice ao0 nn cap0) P w6 HR6.out (fun w' hf => HBm.out _ ((HA.out.trans HF6.out (fun _ _ h => h)).trans hf (fun i hi e => by have := HG.out; omega))) (by have := HV.out; omega) (by have := HU.out; omega) HVU.out (by have := HV.out; omega) (by have := HU.out; omega)
              rw [← HN.out] at h
              exact h
            obtain ⟨c0, c1, c2, c3, c4, c5⟩ := HBX.out _ HF6.out
            obtain ⟨e0, e1, e2, _⟩ := cell_of_three HCB.out
            subst hw6
            go_wp2_with fail
            refine HL.out.mono ?_
            rintro e w7 ⟨rfl, hr7, hf7⟩
            have HR7 : Hid (RowAt w7 g N V U (laidTo dx dy W H 0 P (fun _ _ => false))) := hr7
            have HF7 : Hid (Fr (fun _ => False) w0 w7) := HF6.out.trans hf7 (fun i hi e => by have := HG.out; omega)
            have HCX : Hid (∀ w', Fr (fun _ => False) w7 w' → (w'.cell? ⟨w5.heap.size, 0, none⟩ = some (.int .i64 V) ∧ w'.cell? ⟨w5.heap.size, 1, none⟩ = some (.int .i64 U) ∧ w'.cell? ⟨w5.heap.size, 2, none⟩ = some (.slice (some ⟨g, 0, none⟩) N N)) ∧ w'.cell? ⟨w.heap.size, 0, none⟩ = some (.int .i64 W) ∧ w'.cell? ⟨w.heap.size, 1, none⟩ = some (.int .i64 H) ∧ w'.cell? ⟨w.heap.size, 2, none⟩ = some (.slice ao0 nn cap0) ∧ w'.cell? ⟨w.heap.size, 4, none⟩ = some (.slice (some ⟨bX, oX, none⟩) n ca) ∧ w'.cell? ⟨w.heap.size, 5, none⟩ = some (.slice (some ⟨bY, oY, none⟩) m cb)) := fun w' hf => by
              have h1 : w7.heap[w5.heap.size]? = some (.cells #[.int .i64 V, .int .i64 U, .slice (some ⟨g, 0, none⟩) N N] 24 (0, 0)) := (hf7.block _ (lt_of_block HCB.out) (by have := HG.out; omega)).trans HCB.out
              obtain ⟨d0, d1, d2, _⟩ := cell_of_three (blkOld hf h1)
              obtain ⟨f0, f1, f2, f3, f4, f5⟩ := HBX.out _ (HF7.out.trans hf (fun _ _ h => h))
              exact ⟨⟨d0, d1, d2⟩, f0, f1, f2, f4, f5⟩
            have HBc : Hid (∀ w', Fr (fun _ => False) w7 w' → Bm w' (.slice (some ⟨g, 0, none⟩) N N) V U (laidTo dx dy W H 0 P (fun _ _ => false))) := fun w' hf => by
              have h := (Bm.of_row hr7 (by have := HV.out; omega) (by have := HU.out; omega) HVU.out).kept hf
              rwa [← HN.out] at h
            have HBp : Hid (∀ w', Fr (fun _ => False) w7 w' → Bm w' (.slice ao0 nn cap0) W H P) := fun w' hf => HBm.out _ (HA.out.trans (HF7.out.trans hf (fun _ _ h => h)) (fun _ _ h => h))
            have HFz : Hid (Fr (fun _ => False) w w7) := HA.out.trans HF7.out (fun _ _ h => h)
            clear hr7 hf7 c0 c1 c2 c3 c4 c5 e0 e1 e2 HL HCB HR6 HF6 HR5
            generalize w5.heap.size = bc at *
            go_wp2_with fail
            go_loopw [6, 7, 8, 9, 10, 11, 12, 13, 14, 15] (fun t _ _ _ _ _ _ _ _ _ wr => ∃ k : Nat, k ≤ 4 ∧ t = .int .i64 k ∧ Fr (fun _ => False) w7 wr) (fun t _ _ _ _ _ _ _ _ _ _ => 4 - (intOf t).toNat)
            case atStart => exact ⟨0, by omega, rfl, Fr.refl _ _⟩
            case round =>
              obtain ⟨k, hk, rfl, hfr⟩ := hrel
              have HFt : Hid (Fr (fun _ => False) w7 wr) := hfr
              clear hfr
              by_cases ht4 : k < 4
              · have HT : Hid (k < 4) := ht4
                have hdt : decide ((k : Int) < 4) = true := decide_eq_true (by omega)
                go_wp2_with fail
                go_loopw [7, 8, 9, 10, 11, 12, 13, 14, 15] (fun i _ _ _ _ _ _ _ _ wr => ∃ I : Nat, I ≤ 8 ∧ i = .int .i64 I ∧ Fr (fun _ => False) w7 wr) (fun i _ _ _ _ _ _ _ _ _ => 8 - (intOf i).toNat)
                case atStart => exact ⟨0, by omega, rfl, HFt.out⟩
                case round =>
                  obtain ⟨I, hI, rfl, hfr⟩ := hrel
                  have HFi : Hid (Fr (fun _ => False) w7 wr) := hfr
                  obtain ⟨⟨e0, e1, e2⟩, c0, c1, c2, c4, c5⟩ := HCX.out _ hfr
                  by_cases h1 : I < n
                  · have hd1' : decide (I < n) = true := decide_eq_true h1
                    by_cases h2 : I < m
                    · have hd2' : decide (I < m) = true := decide_eq_true h2
                      by_cases h8 : I < 8
                      · have hd8 : decide ((I : Int) < 8) = true := decide_eq_true (by omega)
                        have hxi := HXi.out _ (HFz.out.trans hfr (fun _ _ h => h)) I h1
                        have hyi := HYi.out _ (HFz.out.trans hfr (fun _ _ h => h)) I h2
                        clear hfr
                        obtain ⟨a0, ha0⟩ : ∃ a0 : Int, (X I).tmod 300 = a0 := ⟨_, rfl⟩
                        obtain ⟨b0, hb0⟩ : ∃ b0 : Int, (Y I).tmod 60 = b0 := ⟨_, rfl⟩
                        have ha1 : -300 < a0 ∧ a0 < 300 := by
                          have p1 := Int.tmod_lt_of_pos (X I) (show (0 : Int) < 300 by omega)
                          have p2 := Int.lt_tmod_of_pos (X I) (show (0 : Int) < 300 by omega)
                          omega
                        have hb1 : -60 < b0 ∧ b0 < 60 := by
                          have p1 := Int.tmod_lt_of_pos (Y I) (show (0 : Int) < 60 by omega)
                          have p2 := Int.lt_tmod_of_pos (Y I) (show (0 : Int) < 60 by omega)
                          omega
                        have hdx := HDX.out.2
                        have hdy := HDY.out.2
                        have HC1 : Hid (Calls Try.prog 14 #[.agg #[.int .i64 W, .int .i64 H, .slice ao0 nn cap0], .int .i64 k, .int .i64 a0, .int .i64 b0] wr fun e w'' => e = .returned (.tuple #[.int .i64 (ctx (pixI W H P) k a0 b0 : Nat), .int .i64 0]) ∧ Fr (fun _ => False) wr w'') := at_ok W H _ P k a0 b0 wr (HBp.out _ HFi.out) HT.out (by omega) (by omega)
                        have HC2 : Hid (∀ w', Fr (fun _ => False) w7 w' → Calls Try.prog 14 #[.agg #[.int .i64 V, .int .i64 U, .slice (some ⟨g, 0, none⟩) N N], .int .i64 k, .int .i64 (a0 + (dx : Int)), .int .i64 (b0 + (dy : Int))] w' fun e w'' => e = .returned (.tuple #[.int .i64 (ctx (pixI W H P) k a0 b0 : Nat), .int .i64 0]) ∧ Fr (fun _ => False) w' w'') := fun w' hf => by
                          have h := at_ok V U _ (laidTo dx dy W H 0 P (fun _ _ => false)) k (a0 + (dx : Int)) (b0 + (dy : Int)) w' (HBc.out _ hf) HT.out (by omega) (by omega)
                          rw [laid_ctx dx dy W H V U k P (by have := HV.out; omega) (by have := HU.out; omega)] at h
                          exact h
                        have HC3 : Hid (∀ w', Fr (fun _ => False) w7 w' → Calls Try.prog 14 #[.agg #[.int .i64 W, .int .i64 H, .slice ao0 nn cap0], .int .i64 k, .int .i64 ((W : Int) + 5), .int .i64 b0] w' fun e w'' => e = .returned (.tuple #[.int .i64 0, .int .i64 0]) ∧ Fr (fun _ => False) w' w'') := fun w' hf => by
                          have h := at_ok W H _ P k ((W : Int) + 5) b0 w' (HBp.out _ hf) HT.out (by omega) (by omega)
                          rw [ctx_far W H P k ((W : Int) + 5) b0 HT.out (by omega)] at h
                          exact h
                        have hz1 : IntKind.i64.wrap (a0 + (dx : Int)) = a0 + (dx : Int) := by rw [IntKind.wrap_i64]; omega
                        have hz2 : IntKind.i64.wrap (b0 + (dy : Int)) = b0 + (dy : Int) := by rw [IntKind.wrap_i64]; omega
                        have hz3 : IntKind.i64.wrap ((W : Int) + 5) = (W : Int) + 5 := by rw [IntKind.wrap_i64]; omega
                        have hz4 : IntKind.i64.wrap a0 = a0 := by rw [IntKind.wrap_i64]; omega
                        have hz5 : IntKind.i64.wrap b0 = b0 := by rw [IntKind.wrap_i64]; omega
                        generalize ctx (pixI W H P) k a0 b0 = cv0 at *
                        clear ha1 hb1 hdx hdy
                        generalize X I = XI at *
                        generalize Y I = YI at *
                        go_wp2_with fail
                        refine HC1.out.mono ?_
                        rintro e w8 ⟨rfl, hf8⟩
                        have HF8 : Hid (Fr (fun _ => False) w7 w8) := HFi.out.trans hf8 (fun _ _ h => h)
                        clear e0 e1 e2 c0 c1 c2 c4 c5 hf8
                        obtain ⟨⟨e0, e1, e2⟩, c0, c1, c2, c4, c5⟩ := HCX.out _ HF8.out
                        go_wp2_with fail
                        refine (HC2.out _ HF8.out).mono ?_
                        rintro e w9 ⟨rfl, hf9⟩
                        have HF9 : Hid (Fr (fun _ => False) w7 w9) := HF8.out.trans hf9 (fun _ _ h => h)
                        clear e0 e1 e2 c0 c1 c2 c4 c5 hf9
                        obtain ⟨⟨e0, e1, e2⟩, c0, c1, c2, c4, c5⟩ := HCX.out _ HF9.out
                        go_wp2_with fail
                        refine (HC3.out _ HF9.out).mono ?_
                        rintro e wa ⟨rfl, hfa⟩
                        have HFa : Hid (Fr (fun _ => False) w7 wa) := HF9.out.trans hfa (fun _ _ h => h)
                        clear hfa
                        have hne1 : ((cv0 : Int) != (cv0 : Int)) = false := by simp
                        go_wp2_with fail
                        go_roundw
                        case rel => exact ⟨I + 1, by omega, congrArg (Value.int .i64) (by omega), HFa.out⟩
                        case measure => simp [intOf]; omega
                      · have hd8 : decide ((I : Int) < 8) = false := decide_eq_false (by omega)
                        clear hfr
                        go_wp2_with fail
                        go_roundw
                        case rel => exact ⟨k + 1, by omega, congrArg (Value.int .i64) (by omega), HFi.out⟩
                        case measure => simp [intOf]; omega
                    · have hd2' : decide (I < m) = false := decide_eq_false h2
                      clear hfr
                      go_wp2_with fail
                      go_roundw
                      case rel => exact ⟨k + 1, by omega, congrArg (Value.int .i64) (by omega), HFi.out⟩
                      case measure => simp [intOf]; omega
                  · have hd1' : decide (I < n) = false := decide_eq_false h1
                    clear hfr
                    go_wp2_with fail
                    go_roundw
                    case rel => exact ⟨k + 1, by omega, congrArg (Value.int .i64) (by omega), HFi.out⟩
                    case measure => simp [intOf]; omega
              · obtain rfl : k = 4 := by omega
                go_wp2_with fail
                refine (wakes_any _).mono ?_
                rintro e w8 ⟨rfl, hf8⟩
                have HF8 : Hid (Fr (fun _ => False) w w8) := (HFz.out.trans HFt.out (fun _ _ h => h)).trans hf8 (fun _ _ h => h)
                clear hf8
                go_wp2_with fail
                go_ret
                exact ⟨rfl, HF8.out⟩
  · rw [show validB x y l = false by simpa using hval]
    go_wp2_with fail
    refine (wakes_any _).mono ?_
    rintro e w2 ⟨rfl, hf2⟩
    have HF2 : Hid (Fr (fun _ => False) w w2) := (HA.out.trans HF1.out (fun _ _ h => h)).trans hf2 (fun _ _ h => h)
    clear hf2
    go_wp2_with fail
    go_ret
    exact ⟨rfl, HF2.out⟩

end Go.Proofs.Ytdgbojlcnkpepaa
