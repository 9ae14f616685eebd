/- The law 'RunsRound'. -/
import Derived.Test.YthliacfkmpijmaaWk
import Derived.Test.YthliacfkmpijmaaRx
import Derived.Test.YthliacfkmpijmaaSm
namespace Go.Proofs.Ythliacfkmpijmaa
open Go.RowKit

/-- A bitmap that may be, out of what is handed in. -/
theorem valid_bm {x y : Int} {v : Value} {l : List Nat} {w : World} (h : validB x y l = true) (hv : Seen w v l) (hc : CapOK v) (hlt : ∀ j : Nat, l[j]?.getD 0 < 18446744073709551616) : ∃ (W H : Nat) (P : Nat → Nat → Bool), x = W ∧ y = H ∧ l = render W H P ∧ Bm w v W H P := by
  have h' := h
  unfold validB at h
  simp only [Bool.and_eq_true, decide_eq_true_eq] at h
  obtain ⟨⟨hs, hl⟩, hr⟩ := h
  unfold sizeOK at hs
  obtain ⟨s1, s2, s3⟩ := of_decide_eq_true hs
  obtain ⟨W, rfl⟩ : ∃ W : Nat, x = W := ⟨x.toNat, by omega⟩
  obtain ⟨H, rfl⟩ : ∃ H : Nat, y = H := ⟨y.toNat, by omega⟩
  have e := valid_render W H l (by omega) hl hr hlt
  refine ⟨W, H, pixOf W l, rfl, rfl, e, ?_, hc, by omega, by omega, ?_⟩
  · rw [← e]; exact hv
  · rw [← Int.natCast_mul] at s3; omega

/-- Row y of rows that a call has made. -/
theorem OwnRR.row {w : World} {base g H : Nat} {L : Nat → List (Nat × Nat)} {vs : List Value} (h : OwnRR w base g H H L vs) {y : Nat} (hy : y < H) : ∃ ao1 cap1, ∀ w', Fr (fun _ => False) w w' → w'.cell? ⟨g, y, none⟩ = some (.slice ao1 (L y).length cap1) ∧ ∀ k (hk : k < (L y).length), ∃ b1, ao1 = some ⟨b1, 0, none⟩ ∧ w'.cell? ⟨b1, k * 2, none⟩ = some (.int .i64 ((L y)[k].1 : Int)) ∧ w'.cell? ⟨b1, k * 2 + 1, none⟩ = some (.int .i64 ((L y)[k].2 : Int)) := by
  have hlen := h.own.1
  have hr := h.at_ y hy
  rw [List.getElem?_eq_getElem (by omega)] at hr
  obtain ⟨ao1, cap1, e⟩ := own_slice hr
  refine ⟨ao1, cap1, fun w' f => ?_⟩
  have h' := h.kept f (fun _ _ h => h)
  refine ⟨by rw [h'.own.cellAt y (by omega), List.getElem?_eq_getElem (by omega)]; exact congrArg some e, fun k hk => ?_⟩
  have hr' := h'.at_ y hy
  rw [List.getElem?_eq_getElem (by omega)] at hr'
  rw [show vs[y] = _ from e] at hr'
  rcases hr'.2 with ⟨e1, e2⟩ | ⟨g1, c1, cur, e1, _⟩
  · omega
  · injection e1 with a1 a2 a3
    subst a1
    subst a3
    obtain ⟨k0, k1⟩ := runCells_get (L y) hk
    exact ⟨g1, rfl, by rw [hr'.cellAt _ (by omega)]; exact k0, by rw [hr'.cellAt _ (by omega)]; exact k1⟩

theorem apart_may {hi : Nat} : ∀ {lo : Nat} {l : List (Nat × Nat)}, Apart hi lo l → mayFrom hi ((lo : Int) - 1) (up l) = true
  | _, [], _ => rfl
  | lo, (a, b) :: t, ⟨h1, h2, h3, h4⟩ => by
    have ih := apart_may h4
    show (decide ((a : Int) < (b : Int)) && decide ((lo : Int) - 1 < (a : Int)) && decide ((b : Int) ≤ (hi : Int)) && mayFrom hi (b : Int) (up t)) = true
    rw [show ((b + 1 : Nat) : Int) - 1 = (b : Int) by omega] at ih
    rw [ih, decide_eq_true (by omega), decide_eq_true (by omega), decide_eq_true (by omega)]
    rfl
theorem rl_may (f : Nat → Bool) (W : Nat) : mayFrom W (-1) (up (rl f W)) = true := apart_may (rl_apart f W)
theorem inRi_up (l : List (Nat × Nat)) (x : Nat) : inRi (up l) x = inR l x := by
  unfold inRi up inR
  rw [List.any_map]
  congr 1
  funext r
  simp only [Function.comp]
  rw [Bool.eq_iff_iff]
  simp only [Bool.and_eq_true, decide_eq_true_eq]
  omega
theorem pixL_rows (W H : Nat) (P : Nat → Nat → Bool) : ∀ a e, a < W → e < H → pixL (upRows H (fun y => rl (fun x => P x y) W)) a e = P a e := by
  intro a e ha he
  unfold pixL
  rw [upRows_get he, inRi_up, rl_pix _ ha]
theorem okB_rows (W H : Nat) (P : Nat → Nat → Bool) (h1 : 1 ≤ W) (h2 : 1 ≤ H) (h3 : W * H ≤ 1048576) : okB W (upRows H (fun y => rl (fun x => P x y) W)) = true := by
  unfold okB
  rw [length_upRows, okRows_good (fun y hy => by rw [length_upRows] at hy; rw [upRows_get hy]; exact rl_may _ W), Bool.and_true]
  unfold sizeOK
  refine decide_eq_true ⟨by omega, by omega, ?_⟩
  rw [← Int.natCast_mul]; omega
/-- Back of Of. -/
theorem back_of {W H : Nat} {P : Nat → Nat → Bool} {w w2 : World} {base g : Nat} {vs : List Value} (h1 : 1 ≤ W) (h2 : 1 ≤ H) (h3 : W * H ≤ 1048576) (h : OwnRR w base g H H (fun y => rl (fun x => P x y) W) vs) (f : Fr (fun _ => False) w w2) :
    Calls Try.prog 15 #[.slice (some ⟨g, 0, none⟩) H H, .int .i64 W] w2 fun e w' => ∃ g2 cap2, e = .returned (.tuple #[.agg #[.int .i64 W, .int .i64 H, .slice (some ⟨g2, 0, none⟩) (H * stride W) cap2], .int .i64 0]) ∧ Seen w' (.slice (some ⟨g2, 0, none⟩) (H * stride W) cap2) (render W H P) ∧ Fr (fun _ => False) w2 w' := by
  obtain ⟨f1, f2, f3⟩ := size_facts h1 h2 h3
  refine (back_any _ (upRows H (fun y => rl (fun x => P x y) W)) W w2 ((h.kept f (fun _ _ h => h)).seen (by omega) (fun y _ => by have := rl_len (fun x => P x y) W; omega)) (by omega)).mono (fun e w' hp => ?_)
  obtain ⟨hy, _, hf⟩ := hp
  obtain ⟨g2, cap2, he, hr, _⟩ := hy (okB_rows W H P h1 h2 h3)
  rw [length_upRows, Int.toNat_natCast] at he hr
  refine ⟨g2, cap2, he, ?_, hf⟩
  have := hr.seen f3
  rwa [render_congr (pixL_rows W H P)] at this

set_option maxRecDepth 100000 in
set_option maxHeartbeats 8000000 in
theorem round_any (x y : Int) (v : Value) (l : List Nat) (w : World) (hx : -9223372036854775808 ≤ x ∧ x ≤ 9223372036854775807) (hy : -9223372036854775808 ≤ y ∧ y ≤ 9223372036854775807) (hv : Seen w v l) (hcap : CapOK v) (hlt : ∀ j : Nat, l[j]?.getD 0 < 18446744073709551616) :
    Calls Try.prog 5 #[.agg #[.int .i64 x, .int .i64 y, v]] w fun e w' => e = .returned (.bool true) ∧ Fr (fun _ => False) w w' := by
  have HMY : Hid (∀ w', Fr (fun _ => False) w w' → Calls Try.prog 18 #[.agg #[.int .i64 x, .int .i64 y, v]] w' fun e w'' => e = .returned (.bool (validB x y l)) ∧ Fr (fun _ => False) w' w'') := fun w' hf => may_any x y v l w' hx hy (hv.kept hf) hlt
  have HV : Hid (validB x y l = true → ∃ (W H : Nat) (P : Nat → Nat → Bool), x = W ∧ y = H ∧ l = render W H P ∧ Bm w v W H P) := fun h => valid_bm h hv hcap hlt
  obtain ⟨ao, cap, rfl, -, -⟩ := hv
  have HBX : Hid (∀ w', Fr (fun _ => False) (w.alloc (.cells #[.int .i64 x, .int .i64 y, .slice ao l.length cap] 25)) w' → w'.cell? ⟨w.heap.size, 0, none⟩ = some (.int .i64 x) ∧ w'.cell? ⟨w.heap.size, 1, none⟩ = some (.int .i64 y) ∧ w'.cell? ⟨w.heap.size, 2, none⟩ = some (.slice ao l.length cap)) := fun w' hf => by
    have hB : w'.heap[w.heap.size]? = some (.cells #[.int .i64 x, .int .i64 y, .slice ao l.length cap] 25 (0, 0)) := by
      rw [hf.block _ (by simp) (fun hh => hh)]; exact heap_alloc_new _ _
    obtain ⟨c0, c1, c2, _⟩ := cell_of_three hB
    exact ⟨c0, c1, c2⟩
  have HA : Hid (Fr (fun _ => False) w (w.alloc (.cells #[.int .i64 x, .int .i64 y, .slice ao l.length cap] 25))) := (Fr.refl _ _).alloc _
  clear hcap hlt hx hy
  go_enter Try.func5, Try.ntmps5
  go_wp2_with fail
  generalize w.alloc (.cells #[.int .i64 x, .int .i64 y, .slice ao l.length cap] 25) = w0 at *
  refine (HMY.out _ HA.out).mono ?_
  rintro e w1 ⟨rfl, hf1⟩
  have HF1 : Hid (Fr (fun _ => False) w0 w1) := hf1
  obtain ⟨c0, c1, c2⟩ := HBX.out _ hf1
  clear hf1 HMY
  by_cases hval : validB x y l = true
  · rw [hval]
    obtain ⟨W, H, P, rfl, rfl, rfl, hbm⟩ := HV.out hval
    have HBm : Hid (∀ w', Fr (fun _ => False) w w' → Bm w' (.slice ao (render W H P).length cap) W H P) := fun w' f => hbm.kept f
    obtain ⟨f1, f2, f3⟩ := size_facts hbm.h1 hbm.h2 hbm.h3
    have HW : Hid (1 ≤ W ∧ 1 ≤ H ∧ W * H ≤ 1048576) := ⟨hbm.h1, hbm.h2, hbm.h3⟩
    clear hbm hval HV f3
    generalize (render W H P).length = n at *
    go_wp2_with fail
    refine (small_any w1.heap.size 0 1 1 60000 _ (by omega) (fun i hi => ?_)).mono ?_
    · obtain rfl : i = 0 := by omega
      obtain ⟨_, _, k2, _⟩ := cell_of_three (heap_alloc_new w1 (.cells #[.int .i64 (W : Int), .int .i64 (H : Int), .slice ao n cap] 25))
      exact ⟨ao, n, cap, k2⟩
    rintro e w2 ⟨bb, rfl, q, hw2⟩
    have HF2 : Hid (Fr (fun _ => False) w0 w2) := by rw [hw2]; exact (HF1.out.alloc _).drewN q
    clear hw2 c0 c1 c2
    cases bb with
    | false =>
      go_wp2_with fail
      refine (wakes_any _).mono ?_
      rintro e w3 ⟨rfl, hf3⟩
      have HF3 : Hid (Fr (fun _ => False) w w3) := (HA.out.trans HF2.out (fun _ _ h => h)).trans hf3 (fun _ _ h => h)
      clear hf3
      go_wp2_with fail
      go_ret
      exact ⟨rfl, HF3.out⟩
    | true =>
      obtain ⟨c0, c1, c2⟩ := HBX.out _ HF2.out
      go_wp2_with fail
      refine (of_ok W H _ P _ (HBm.out _ (HA.out.trans HF2.out (fun _ _ h => h)))).mono ?_
      rintro e w3 ⟨g, vs, rfl, ho3, hf3⟩
      have HO3 : Hid (OwnRR w3 w2.heap.size g H H (fun y => rl (fun x => P x y) W) vs) := ho3
      have HF3 : Hid (Fr (fun _ => False) w0 w3) := HF2.out.trans hf3 (fun _ _ h => h)
      clear ho3 hf3 c0 c1 c2
      obtain ⟨c0, c1, c2⟩ := HBX.out _ HF3.out
      go_wp2_with fail
      refine (back_of HW.out.1 HW.out.2.1 HW.out.2.2 HO3.out (Fr.refl _ _)).mono ?_
      rintro e w4 ⟨g4, cap4, rfl, hs4, hf4⟩
      have HS4 : Hid (∀ w', Fr (fun _ => False) w4 w' → Seen w' (.slice (some ⟨g4, 0, none⟩) (H * stride W) cap4) (render W H P)) := fun w' f => hs4.kept f
      have HF4 : Hid (Fr (fun _ => False) w0 w4) := HF3.out.trans hf4 (fun _ _ h => h)
      have HO4 : Hid (OwnRR w4 w2.heap.size g H H (fun y => rl (fun x => P x y) W) vs) := HO3.out.kept hf4 (fun _ _ h => h)
      clear hs4 hf4 c0 c1 c2
      generalize H * stride W = n4 at *
      have HEB : Hid (∀ w', Fr (fun _ => False) w0 w' → Fr (fun _ => False) w4 w' → Calls Try.prog 17 #[.agg #[.int .i64 W, .int .i64 H, .slice ao n cap], .agg #[.int .i64 W, .int .i64 H, .slice (some ⟨g4, 0, none⟩) n4 cap4]] w' fun e w'' => e = .returned (.bool true) ∧ Fr (fun _ => False) w' w'') := fun w' f f4 => eqBitmap_same W H _ _ _ w' (HBm.out _ (HA.out.trans f (fun _ _ h => h))).seen (HS4.out _ f4)
      obtain ⟨c0, c1, c2⟩ := HBX.out _ (HF4.out.alloc (.cells #[.int .i64 (W : Int), .int .i64 (H : Int), .slice (some ⟨g4, 0, none⟩) n4 cap4] 25))
      have HF5 : Hid (Fr (fun _ => False) w4 (w4.alloc (.cells #[.int .i64 (W : Int), .int .i64 (H : Int), .slice (some ⟨g4, 0, none⟩) n4 cap4] 25))) := (Fr.refl _ _).alloc _
      have hHH : ((H : Int) != (H : Int)) = false := by simp
      go_wp2_with fail
      generalize w4.alloc (.cells #[.int .i64 (W : Int), .int .i64 (H : Int), .slice (some ⟨g4, 0, none⟩) n4 cap4] 25) = w5 at *
      refine (HEB.out _ (HF4.out.trans HF5.out (fun _ _ h => h)) HF5.out).mono ?_
      rintro e w6 ⟨rfl, hf6⟩
      have HF6 : Hid (Fr (fun _ => False) w0 w6) := (HF4.out.trans HF5.out (fun _ _ h => h)).trans hf6 (fun _ _ h => h)
      have HO6 : Hid (OwnRR w6 w2.heap.size g H H (fun y => rl (fun x => P x y) W) vs) := (HO4.out.kept HF5.out (fun _ _ h => h)).kept hf6 (fun _ _ h => h)
      clear hf6 c0 c1 c2 HEB HS4 HO4 HO3 HF5 HF4 HF3 HF2 HF1
      obtain ⟨c0, c1, c2⟩ := HBX.out _ HF6.out
      have HZG : Hid (∀ (i j : Int) (w' : World), Fr (fun _ => False) w0 w' → Calls Try.prog 20 #[.agg #[.int .i64 W, .int .i64 H, .slice ao n cap], .int .i64 i, .int .i64 j] w' fun e w'' => e = .returned (.int .i64 ((getPix W H P i j).toNat : Nat)) ∧ Fr (fun _ => False) w' w'') := fun i j w' f => by
        have hb := HBm.out w' (HA.out.trans f (fun _ _ h => h))
        exact zget_any W H _ P i j w' hb.seen hb.h1 hb.h2 hb.h3
      have HCT : Hid (∀ w', Fr (fun _ => False) w0 w' → Calls Try.prog 21 #[.agg #[.int .i64 W, .int .i64 H, .slice ao n cap]] w' fun e w'' => e = .returned (.int .i64 (cnt W H P : Nat)) ∧ Fr (fun _ => False) w' w'') := fun w' f => by
        have hb := HBm.out w' (HA.out.trans f (fun _ _ h => h))
        exact zcount_any W H _ P w' hb.seen hb.h1 hb.h2 hb.h3
      have HBD : Hid (∀ Y : Nat, Y ≤ H → sumTo (fun y => tot (rl (fun x => P x y) W)) Y ≤ 1048576) := fun Y hY => by
        have e1 := sumTo_le (f := fun y => tot (rl (fun x => P x y) W)) (g := fun _ => W) (n := Y) (fun k _ => rl_tot_le _ _)
        rw [sumTo_const] at e1
        have e2 := Nat.mul_le_mul_right W hY
        have e3 := HW.out.2.2
        rw [Nat.mul_comm] at e3
        omega
      have HCE : Hid (sumTo (fun y => tot (rl (fun x => P x y) W)) H = cnt W H P) := sumTo_congr (fun y _ => rl_tot _ _)
      go_wp2_with fail
      clear c0 c1 c2
      go_loopg [7, 8, 9, 10, 11] H (fun q nn yy _ _ _ wr => ∃ Y : Nat, Y + q = H ∧ yy = .int .i64 Y ∧ nn = .int .i64 (sumTo (fun y => tot (rl (fun x => P x y) W)) Y : Nat) ∧ Fr (fun _ => False) w6 wr)
      case atStart => exact ⟨0, by omega, rfl, rfl, Fr.refl _ _⟩
      case round =>
        obtain ⟨Y, hYq, rfl, rfl, hfr⟩ := hrel
        have HFr : Hid (Fr (fun _ => False) w6 wr) := hfr
        clear hfr
        by_cases hYH : Y < H
        · have hdY : decide (Y < H) = true := decide_eq_true hYH
          obtain ⟨ao1, cap1, hrow⟩ := HO6.out.row hYH
          have HRO : Hid (∀ w', Fr (fun _ => False) w6 w' → w'.cell? ⟨g, Y, none⟩ = some (.slice ao1 (rl (fun x => P x Y) W).length cap1)) := fun w' f => (hrow w' f).1
          have HRI : Hid (∀ w', Fr (fun _ => False) w6 w' → ∀ k (hk : k < (rl (fun x => P x Y) W).length), ∃ b1, ao1 = some ⟨b1, 0, none⟩ ∧ w'.cell? ⟨b1, k * 2, none⟩ = some (.int .i64 ((rl (fun x => P x Y) W)[k].1 : Int)) ∧ w'.cell? ⟨b1, k * 2 + 1, none⟩ = some (.int .i64 ((rl (fun x => P x Y) W)[k].2 : Int))) := fun w' f => (hrow w' f).2
          clear hrow
          obtain ⟨R, hR⟩ : ∃ R, R = rl (fun x => P x Y) W := ⟨_, rfl⟩
          have HRR : Hid (R = rl (fun x => P x Y) W) := hR
          have hB1 := HBD.out Y (by omega)
          have hB2 := HBD.out (Y + 1) (by omega)
          have HS1 : Hid (sumTo (fun y => tot (rl (fun x => P x y) W)) (Y + 1) = sumTo (fun y => tot (rl (fun x => P x y) W)) Y + tot R) := by rw [hR]; rfl
          have hB3 : sumTo (fun y => tot (rl (fun x => P x y) W)) Y + tot R ≤ 1048576 := by rw [← HS1.out]; exact hB2
          rw [← hR] at HRO HRI
          clear hR hB2
          generalize sumTo (fun y => tot (rl (fun x => P x y) W)) Y = N0 at *
          have HRL : Hid (R.length ≤ W + 1) := by rw [HRR.out]; exact rl_len _ _
          go_wp2_with fail
          go_loopg [7, 9, 10, 11] R.length (fun q nn ii _ _ wr => ∃ I : Nat, I + q = R.length ∧ ii = .int .i64 I ∧ nn = .int .i64 ((N0 + tot (R.take I) : Nat) : Int) ∧ Fr (fun _ => False) w6 wr)
          case atStart => exact ⟨0, by omega, rfl, by simp [tot], HFr.out⟩
          case round =>
            obtain ⟨I, hIq, rfl, rfl, hfr⟩ := hrel
            clear HFr
            have HFr : Hid (Fr (fun _ => False) w6 wr) := hfr
            have kr := HRO.out wr hfr
            clear hfr
            by_cases hIR : I < R.length
            · have hdI : decide (I < R.length) = true := decide_eq_true hIR
              obtain ⟨b1, rfl, k0, k1⟩ := HRI.out wr HFr.out I hIR
              have hrun := rl_isRun (fun x => P x Y) W R[I] (by rw [← HRR.out]; exact List.getElem_mem hIR)
              have HT1 := tot_take hIR
              have HT2 := tot_take_le R (I + 1)
              have hl1 := hrun.lt
              have hl2 := hrun.le
              have HAL : Hid (∀ k, R[I].1 ≤ k → k < R[I].2 → P k Y = true) := hrun.all
              have HLF : Hid (R[I].1 = 0 ∨ P (R[I].1 - 1) Y = false) := hrun.left
              have HRT : Hid (R[I].2 = W ∨ P R[I].2 Y = false) := hrun.right
              have HRL2 := HRL.out
              clear hrun
              generalize R[I].1 = a at *
              generalize R[I].2 = b at *
              have HG1 : Hid (getPix W H P ((a : Int) - 1) (Y : Int) = false) := by
                show _ = _
                unfold getPix
                rcases HLF.out with h | h
                · rw [decide_eq_false (by omega)]; rfl
                · by_cases ha : a = 0
                  · rw [decide_eq_false (by omega)]; rfl
                  · rw [show ((a : Int) - 1).toNat = a - 1 by omega, Int.toNat_natCast, h, Bool.and_false]
              have HG2 : Hid (getPix W H P (b : Int) (Y : Int) = false) := by
                show _ = _
                unfold getPix
                rcases HRT.out with h | h
                · rw [decide_eq_false (by omega)]; rfl
                · rw [Int.toNat_natCast, Int.toNat_natCast, h, Bool.and_false]
              have HG3 : Hid (∀ k : Nat, a ≤ k → k < b → getPix W H P (k : Int) (Y : Int) = true) := fun k ka kb => by
                rw [getPix_in (by omega) hYH]; exact HAL.out k ka kb
              clear HLF HRT HAL
              have HFA : Hid (Fr (fun _ => False) w6 (wr.alloc (.cells #[.int .i64 (a : Int), .int .i64 (b : Int)] 35))) := HFr.out.alloc _
              have HBA : Hid (∀ w', Fr (fun _ => False) (wr.alloc (.cells #[.int .i64 (a : Int), .int .i64 (b : Int)] 35)) w' → w'.cell? ⟨wr.heap.size, 0, none⟩ = some (.int .i64 (a : Int)) ∧ w'.cell? ⟨wr.heap.size, 1, none⟩ = some (.int .i64 (b : Int))) := fun w' hf => by
                obtain ⟨q0, q1, _⟩ := cell_of_two (blkOld hf (heap_alloc_new wr (.cells #[.int .i64 (a : Int), .int .i64 (b : Int)] 35)))
                exact ⟨q0, q1⟩
              obtain ⟨c0, c1, c2⟩ := HBX.out _ (HF6.out.trans HFA.out (fun _ _ h => h))
              obtain ⟨q0, q1⟩ := HBA.out _ (Fr.refl _ _)
              have d1 : decide ((a : Int) < 0) = false := decide_eq_false (by omega)
              have d2 : decide (W < b) = false := decide_eq_false (by omega)
              have d3 : decide (b ≤ a) = false := decide_eq_false (by omega)
              go_wp2_with fail
              generalize wr.alloc (.cells #[.int .i64 (a : Int), .int .i64 (b : Int)] 35) = wA at *
              clear kr k0 k1
              refine (HZG.out _ _ _ (HF6.out.trans HFA.out (fun _ _ h => h))).mono ?_
              rintro e wB ⟨rfl, hfB⟩
              have HFB : Hid (Fr (fun _ => False) wA wB) := hfB
              clear hfB c0 c1 c2 q0 q1
              rw [HG1.out]
              obtain ⟨c0, c1, c2⟩ := HBX.out _ ((HF6.out.trans HFA.out (fun _ _ h => h)).trans HFB.out (fun _ _ h => h))
              obtain ⟨q0, q1⟩ := HBA.out _ HFB.out
              go_wp2_with fail
              refine (HZG.out _ _ _ ((HF6.out.trans HFA.out (fun _ _ h => h)).trans HFB.out (fun _ _ h => h))).mono ?_
              rintro e wC ⟨rfl, hfC⟩
              have HFC : Hid (Fr (fun _ => False) wA wC) := HFB.out.trans hfC (fun _ _ h => h)
              clear hfC c0 c1 c2 q0 q1
              rw [HG2.out]
              obtain ⟨q0, q1⟩ := HBA.out _ HFC.out
              go_wp2_with fail
              clear q0 q1
              go_loopg [11] (b - a) (fun q kk wq => ∃ K : Nat, K + q = b ∧ a ≤ K ∧ kk = .int .i64 K ∧ Fr (fun _ => False) wA wq)
              case atStart => exact ⟨a, by omega, Nat.le_refl _, rfl, HFC.out⟩
              case round =>
                obtain ⟨K, hKq, hKa, rfl, hfr⟩ := hrel
                have HFK : Hid (Fr (fun _ => False) wA wr) := hfr
                obtain ⟨q0, q1⟩ := HBA.out _ hfr
                clear hfr
                by_cases hKb : K < b
                · have hdK : decide (K < b) = true := decide_eq_true hKb
                  obtain ⟨c0, c1, c2⟩ := HBX.out _ ((HF6.out.trans HFA.out (fun _ _ h => h)).trans HFK.out (fun _ _ h => h))
                  go_wp2_with fail
                  refine (HZG.out _ _ _ ((HF6.out.trans HFA.out (fun _ _ h => h)).trans HFK.out (fun _ _ h => h))).mono ?_
                  rintro e wD ⟨rfl, hfD⟩
                  have HFD : Hid (Fr (fun _ => False) wA wD) := HFK.out.trans hfD (fun _ _ h => h)
                  clear hfD c0 c1 c2 q0 q1
                  rw [HG3.out K hKa hKb]
                  go_wp2_with fail
                  go_roundg (b - (K + 1))
                  case measure => omega
                  case rel => exact ⟨K + 1, by omega, by omega, congrArg (Value.int .i64) (by omega), HFD.out⟩
                · have hdK : decide (K < b) = false := decide_eq_false hKb
                  have HSM : Hid (N0 + tot (R.take (I + 1)) = N0 + tot (R.take I) + (b - a)) := by show _ = _; omega
                  have HTB : Hid (tot (R.take I) + b ≤ tot R + b) := by show _ ≤ _; omega
                  generalize tot (R.take I) = T1 at *
                  go_wp2_with fail
                  go_roundg (R.length - (I + 1))
                  case measure => omega
                  case rel => exact ⟨I + 1, by omega, congrArg (Value.int .i64) (by omega), congrArg (Value.int .i64) (by have := HSM.out; omega), HFA.out.trans HFK.out (fun _ _ h => h)⟩
            · have hdI : decide (I < R.length) = false := decide_eq_false hIR
              have HTE : Hid (tot (R.take I) = tot R) := by show _ = _; rw [List.take_of_length_le (by omega)]
              rw [HTE.out]
              have HSE : Hid (((N0 + tot R : Nat) : Int) = ((sumTo (fun y => tot (rl (fun x => P x y) W)) (Y + 1) : Nat) : Int)) := by show _ = _; rw [HS1.out]
              go_wp2_with fail
              go_roundg (H - (Y + 1))
              case measure => omega
              case rel => exact ⟨Y + 1, by omega, congrArg (Value.int .i64) (by omega), congrArg (Value.int .i64) HSE.out, HFr.out⟩
        · have hdY : decide (Y < H) = false := decide_eq_false hYH
          have hYe : Y = H := by omega
          have HNE : Hid (sumTo (fun y => tot (rl (fun x => P x y) W)) Y = cnt W H P) := by show _ = _; rw [hYe]; exact HCE.out
          rw [HNE.out]
          clear hYe
          obtain ⟨c0, c1, c2⟩ := HBX.out _ (HF6.out.trans HFr.out (fun _ _ h => h))
          have hcc : ((cnt W H P : Int) == (cnt W H P : Int)) = true := by simp
          generalize cnt W H P = C at *
          go_wp2_with fail
          refine (HCT.out _ (HF6.out.trans HFr.out (fun _ _ h => h))).mono ?_
          rintro e wB ⟨rfl, hfB⟩
          have HFB : Hid (Fr (fun _ => False) w0 wB) := (HF6.out.trans HFr.out (fun _ _ h => h)).trans hfB (fun _ _ h => h)
          clear hfB c0 c1 c2
          go_wp2_with fail
          refine (wakes_any _).mono ?_
          rintro e wz ⟨rfl, hfz⟩
          have HFz : Hid (Fr (fun _ => False) w wz) := (HA.out.trans HFB.out (fun _ _ h => h)).trans hfz (fun _ _ h => h)
          clear hfz
          go_wp2_with fail
          go_ret
          exact ⟨rfl, HFz.out⟩
  · have hvf : validB x y l = false := by simpa using hval
    rw [hvf]
    go_wp2_with fail
    refine (wakes_any _).mono ?_
    rintro e wz ⟨rfl, hfz⟩
    have HFz : Hid (Fr (fun _ => False) w wz) := (HA.out.trans HF1.out (fun _ _ h => h)).trans hfz (fun _ _ h => h)
    clear hfz
    go_wp2_with fail
    go_ret
    exact ⟨rfl, HFz.out⟩

end Go.Proofs.Ythliacfkmpijmaa
