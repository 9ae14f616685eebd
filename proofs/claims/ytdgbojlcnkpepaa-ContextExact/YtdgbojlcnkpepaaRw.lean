/- The law 'ContextRows'. -/
import Derived.Test.YtdgbojlcnkpepaaWa
import Derived.Test.YtdgbojlcnkpepaaMay
import Derived.Test.YtdgbojlcnkpepaaSmallish
namespace Go.Proofs.Ytdgbojlcnkpepaa
open Go.RowKit

/-- A bitmap that may be, out of what is handed in. -/
theorem valid_bm {x y : Int} {v : Value} {l : List Nat} {w : World} (h : validB x y l = true) (hv : Seen w v l) (hc : CapOK v) (hlt : ∀ j : Nat, l[j]?.getD 0 < 18446744073709551616) : ∃ (W H : Nat) (P : Nat → Nat → Bool), x = W ∧ y = H ∧ l = render W H P ∧ Bm w v W H P := by
  have h' := h
  unfold validB at h
  simp only [Bool.and_eq_true, decide_eq_true_eq] at h
  obtain ⟨⟨hs, hl⟩, hr⟩ := h
  unfold sizeOK at hs
  obtain ⟨s1, s2, s3⟩ := of_decide_eq_true hs
  obtain ⟨W, rfl⟩ : ∃ W : Nat, x = W := ⟨x.toNat, by omega⟩
  obtain ⟨H, rfl⟩ : ∃ H : Nat, y = H := ⟨y.toNat, by omega⟩
  have e := valid_render W H l (by omega) hl hr hlt
  refine ⟨W, H, pixOf W l, rfl, rfl, e, ?_, hc, by omega, by omega, ?_⟩
  · rw [← e]; exact hv
  · rw [← Int.natCast_mul] at s3; omega

set_option maxRecDepth 100000 in
set_option maxHeartbeats 4000000 in
theorem rows_any (x y : Int) (v : Value) (l : List Nat) (w : World) (hx : -9223372036854775808 ≤ x ∧ x ≤ 9223372036854775807) (hy : -9223372036854775808 ≤ y ∧ y ≤ 9223372036854775807) (hv : Seen w v l) (hcap : CapOK v) (hlt : ∀ j : Nat, l[j]?.getD 0 < 18446744073709551616) :
    Calls Try.prog 4 #[.agg #[.int .i64 x, .int .i64 y, v]] w fun e w' => e = .returned (.bool true) ∧ Fr (fun _ => False) w w' := by
  have HMY : Hid (∀ w', Fr (fun _ => False) w w' → Calls Try.prog 8 #[.agg #[.int .i64 x, .int .i64 y, v]] w' fun e w'' => e = .returned (.bool (validB x y l)) ∧ Fr (fun _ => False) w' w'') := fun w' hf => may_any x y v l w' hx hy (hv.kept hf) hlt
  have HV : Hid (validB x y l = true → ∃ (W H : Nat) (P : Nat → Nat → Bool), x = W ∧ y = H ∧ l = render W H P ∧ Bm w v W H P) := fun h => valid_bm h hv hcap hlt
  obtain ⟨ao, cap, rfl, _, _⟩ := hv
  have HBX : Hid (∀ w', Fr (fun _ => False) (w.alloc (.cells #[.int .i64 x, .int .i64 y, .slice ao l.length cap] 24)) w' → w'.cell? ⟨w.heap.size, 0, none⟩ = some (.int .i64 x) ∧ w'.cell? ⟨w.heap.size, 1, none⟩ = some (.int .i64 y) ∧ w'.cell? ⟨w.heap.size, 2, none⟩ = some (.slice ao l.length cap)) := fun w' hf => by
    have hB : w'.heap[w.heap.size]? = some (.cells #[.int .i64 x, .int .i64 y, .slice ao l.length cap] 24 (0, 0)) := by
      rw [hf.block _ (by simp) (fun hh => hh)]; exact heap_alloc_new _ _
    obtain ⟨c0, c1, c2, _⟩ := cell_of_three hB
    exact ⟨c0, c1, c2⟩
  have HA : Hid (Fr (fun _ => False) w (w.alloc (.cells #[.int .i64 x, .int .i64 y, .slice ao l.length cap] 24))) := (Fr.refl _ _).alloc _
  clear hcap hlt hx hy
  go_enter Try.func4, Try.ntmps4
  go_wp2_with fail
  generalize w.alloc (.cells #[.int .i64 x, .int .i64 y, .slice ao l.length cap] 24) = w0 at *
  refine (HMY.out _ HA.out).mono ?_
  rintro e w1 ⟨rfl, hf1⟩
  have HF1 : Hid (Fr (fun _ => False) w0 w1) := hf1
  obtain ⟨c0, c1, c2⟩ := HBX.out _ hf1
  clear hf1 HMY
  by_cases hval : validB x y l = true
  · rw [hval]
    obtain ⟨W, H, P, rfl, rfl, rfl, hbm⟩ := HV.out hval
    have HBm : Hid (∀ w', Fr (fun _ => False) w w' → Bm w' (.slice ao (render W H P).length cap) W H P) := fun w' f => hbm.kept f
    obtain ⟨f1, f2, f3⟩ := size_facts hbm.h1 hbm.h2 hbm.h3
    have hmul : (W : Int) * (H : Int) = ((W * H : Nat) : Int) := by push_cast; rfl
    have hWH : W * H ≤ 1048576 := hbm.h3
    obtain ⟨A, hA⟩ : ∃ A, A = W * H := ⟨_, rfl⟩
    rw [← hA] at hmul hWH
    have hwm : IntKind.i64.wrap (A : Int) = (A : Int) := by rw [IntKind.wrap_i64]; omega
    have HW : Hid (W ≤ 1048576 ∧ H ≤ 1048576) := ⟨f1, f2⟩
    clear hbm hval HV f3 hA
    generalize (render W H P).length = n at *
    by_cases hbig : 8000 < A
    · have hd1 : decide ((8000 : Int) < (A : Int)) = true := decide_eq_true (by omega)
      go_wp2_with fail
      refine (wakes_any _).mono ?_
      rintro e w2 ⟨rfl, hf2⟩
      have HF2 : Hid (Fr (fun _ => False) w w2) := (HA.out.trans HF1.out (fun _ _ h => h)).trans hf2 (fun _ _ h => h)
      clear hf2
      go_wp2_with fail
      go_ret
      exact ⟨rfl, HF2.out⟩
    · have hd1 : decide ((8000 : Int) < (A : Int)) = false := decide_eq_false (by omega)
      go_wp2_with fail
      refine (small_any w1.heap.size 0 1 1 160000 _ (by omega) (fun i hi => ?_)).mono ?_
      · obtain rfl : i = 0 := by omega
        obtain ⟨_, _, k2, _⟩ := cell_of_three (heap_alloc_new w1 (.cells #[.int .i64 (W : Int), .int .i64 (H : Int), .slice ao n cap] 24))
        exact ⟨ao, n, cap, k2⟩
      rintro e w2 ⟨bb, rfl, q, hw2⟩
      have HF2 : Hid (Fr (fun _ => False) w0 w2) := by rw [hw2]; exact (HF1.out.alloc _).drewN q
      clear hw2 c0 c1 c2
      cases bb with
      | false =>
        go_wp2_with fail
        refine (wakes_any _).mono ?_
        rintro e w3 ⟨rfl, hf3⟩
        have HF3 : Hid (Fr (fun _ => False) w w3) := (HA.out.trans HF2.out (fun _ _ h => h)).trans hf3 (fun _ _ h => h)
        clear hf3
        go_wp2_with fail
        go_ret
        exact ⟨rfl, HF3.out⟩
      | true =>
        go_wp2_with fail
        go_loopw [3, 4, 5, 6, 7, 8, 9, 10, 11] (fun t _ _ _ _ _ _ _ _ wr => ∃ k : Nat, k ≤ 4 ∧ t = .int .i64 k ∧ Fr (fun _ => False) w0 wr) (fun t _ _ _ _ _ _ _ _ _ => 4 - (intOf t).toNat)
        case atStart => exact ⟨0, by omega, rfl, HF2.out⟩
        case round =>
          obtain ⟨t, hk, rfl, hfr⟩ := hrel
          have HFr : Hid (Fr (fun _ => False) w0 wr) := hfr
          clear hfr
          by_cases ht : t < 4
          · have HT : Hid (t < 4) := ht
            have hdt : decide ((t : Int) < 4) = true := decide_eq_true (by omega)
            have HSz : Hid (∀ w', Calls Try.prog 10 #[.int .i64 t] w' fun e w'' => e = .returned (.tuple #[.int .i64 (sizeT t : Nat), .int .i64 0]) ∧ Fr (fun _ => False) w' w'') := fun w' => size_any t HT.out w'
            have HLT : Hid (∀ X Y : Nat, ctx (pixI W H P) t X Y < sizeT t) := fun X Y => ctx_lt (pixI W H P) (pixI_le W H P) t X Y
            generalize sizeT t = Z at *
            go_wp2_with fail
            refine (HSz.out _).mono ?_
            rintro e w4 ⟨rfl, hf4⟩
            have HF4 : Hid (Fr (fun _ => False) w0 w4) := HFr.out.trans hf4 (fun _ _ h => h)
            clear hf4 HSz
            go_wp2_with fail
            go_loopw [6, 7, 8, 9, 10, 11] (fun y _ _ _ _ _ wr => ∃ Y : Nat, Y ≤ H ∧ y = .int .i64 Y ∧ Fr (fun _ => False) w0 wr) (fun y _ _ _ _ _ _ => H - (intOf y).toNat)
            case atStart => exact ⟨0, by omega, rfl, HF4.out⟩
            case round =>
              obtain ⟨Y, hY, rfl, hfr⟩ := hrel
              have HFi : Hid (Fr (fun _ => False) w0 wr) := hfr
              obtain ⟨c0, c1, c2⟩ := HBX.out _ hfr
              clear hfr
              by_cases hYH : Y < H
              · have hdY : decide (Y < H) = true := decide_eq_true hYH
                go_wp2_with fail
                refine (row_ok W H _ P t Y wr (HBm.out _ (HA.out.trans HFi.out (fun _ _ h => h))) HT.out hYH).mono ?_
                rintro e w5 ⟨g, rfl, hr5, hg5, hf5⟩
                have HR5 : Hid (∀ w', Fr (fun _ => False) w5 w' → ∀ X, X < W → w'.cell? ⟨g, X, none⟩ = some (.int .i64 (ctx (pixI W H P) t X Y : Nat))) := fun w' hf X hX => (hr5.kept hf (fun h => h)).get hX
                have HF5 : Hid (Fr (fun _ => False) w0 w5) := HFi.out.trans hf5 (fun _ _ h => h)
                clear hr5 hg5 hf5 c0 c1 c2
                obtain ⟨c0, c1, c2⟩ := HBX.out _ HF5.out
                have hneW : ((W : Int) != (W : Int)) = false := by simp
                go_wp2_with fail
                go_loopw [9, 10, 11] (fun x _ _ wr => ∃ X : Nat, X ≤ W ∧ x = .int .i64 X ∧ Fr (fun _ => False) w5 wr) (fun x _ _ _ => W - (intOf x).toNat)
                case atStart => exact ⟨0, by omega, rfl, Fr.refl _ _⟩
                case round =>
                  obtain ⟨X, hX, rfl, hfr⟩ := hrel
                  have HFj : Hid (Fr (fun _ => False) w5 wr) := hfr
                  have HFk : Hid (Fr (fun _ => False) w0 wr) := HF5.out.trans hfr (fun _ _ h => h)
                  clear hfr c0 c1 c2
                  obtain ⟨c0, c1, c2⟩ := HBX.out _ HFk.out
                  by_cases hXW : X < W
                  · have hdX : decide (X < W) = true := decide_eq_true hXW
                    have HAt : Hid (Calls Try.prog 14 #[.agg #[.int .i64 W, .int .i64 H, .slice ao n cap], .int .i64 t, .int .i64 X, .int .i64 Y] wr fun e w'' => e = .returned (.tuple #[.int .i64 (ctx (pixI W H P) t X Y : Nat), .int .i64 0]) ∧ Fr (fun _ => False) wr w'') := at_ok W H _ P t X Y wr (HBm.out _ (HA.out.trans HFk.out (fun _ _ h => h))) HT.out (by have := HW.out; omega) (by have := HW.out; omega)
                    have hlt := HLT.out X Y
                    go_wp2_with fail
                    refine HAt.out.mono ?_
                    rintro e w6 ⟨rfl, hf6⟩
                    have HF6 : Hid (Fr (fun _ => False) w5 w6) := HFj.out.trans hf6 (fun _ _ h => h)
                    have hcl := HR5.out w6 HF6.out X hXW
                    clear hf6 c0 c1 c2
                    generalize ctx (pixI W H P) t X Y = N at *
                    have hne1 : ((N : Int) != (N : Int)) = false := by simp
                    have hd5 : decide ((N : Int) < 0) = false := decide_eq_false (by omega)
                    have hd6 : decide (Z ≤ N) = false := decide_eq_false (by omega)
                    clear hlt
                    go_wp2_with fail
                    go_roundw
                    case rel => exact ⟨X + 1, by omega, congrArg (Value.int .i64) (by omega), HF6.out⟩
                    case measure => simp [intOf]; omega
                  · obtain rfl : X = W := by omega
                    have hdX : decide (X < X) = false := decide_eq_false (by omega)
                    go_wp2_with fail
                    go_roundw
                    case rel => exact ⟨Y + 1, by omega, congrArg (Value.int .i64) (by omega), HFk.out⟩
                    case measure => simp [intOf]; omega
              · obtain rfl : Y = H := by omega
                have hdY : decide (Y < Y) = false := decide_eq_false (by omega)
                go_wp2_with fail
                go_roundw
                case rel => exact ⟨t + 1, by omega, congrArg (Value.int .i64) (by omega), HFi.out⟩
                case measure => simp [intOf]; omega
          · obtain rfl : t = 4 := by omega
            go_wp2_with fail
            refine (wakes_any _).mono ?_
            rintro e w7 ⟨rfl, hf7⟩
            have HF7 : Hid (Fr (fun _ => False) w w7) := (HA.out.trans HFr.out (fun _ _ h => h)).trans hf7 (fun _ _ h => h)
            clear hf7
            go_wp2_with fail
            go_ret
            exact ⟨rfl, HF7.out⟩
  · rw [show validB x y l = false by simpa using hval]
    go_wp2_with fail
    refine (wakes_any _).mono ?_
    rintro e w2 ⟨rfl, hf2⟩
    have HF2 : Hid (Fr (fun _ => False) w w2) := (HA.out.trans HF1.out (fun _ _ h => h)).trans hf2 (fun _ _ h => h)
    clear hf2
    go_wp2_with fail
    go_ret
    exact ⟨rfl, HF2.out⟩

end Go.Proofs.Ytdgbojlcnkpepaa
