/- The law 'ContextOne'. -/
import Derived.Test.YtdgbojlcnkpepaaWa
import Derived.Test.YtdgbojlcnkpepaaOm
import Derived.Test.YtdgbojlcnkpepaaRefPut
namespace Go.Proofs.Ytdgbojlcnkpepaa
open Go.RowKit

theorem Bm.of_row {w : World} {g cap W H : Nat} {P : Nat → Nat → Bool} (h : RowAt w g cap W H P) (h1 : 1 ≤ W) (h2 : 1 ≤ H) (h3 : W * H ≤ 1048576) : Bm w (.slice (some ⟨g, 0, none⟩) (H * stride W) cap) W H P := by
  obtain ⟨f1, f2, f3⟩ := size_facts h1 h2 h3
  refine ⟨h.seen f3, fun ao n c e => ?_, h1, h2, h3⟩
  cases e
  rcases h.2 with ⟨e, _⟩ | ⟨g', cap', cur, e, _, _, hc, hm, _⟩
  · cases e
  · simp at e; obtain ⟨_, rfl⟩ := e; exact ⟨hc, hm⟩

theorem okAll_step {t s c y x : Nat} (hx : x < 20) (hy : y < 9) (h : okAll t (180 - (20 * y + x)) s c (20 * y + x) = true) :
    okStep s c (cv t y x) y x = true ∧ okAll t (180 - (20 * y + (x + 1))) (s ||| cv t y x) (c + if cv t y x = 0 then 0 else 1) (20 * y + (x + 1)) = true := by
  rw [show 180 - (20 * y + x) = 180 - (20 * y + (x + 1)) + 1 by omega, okAll, show (20 * y + x) / 20 = y by omega, show (20 * y + x) % 20 = x by omega] at h
  simpa [Bool.and_eq_true, Nat.add_assoc] using h
theorem okAll_end {t s c : Nat} (h : okAll t 0 s c 180 = true) : s + 1 = sizeT t ∧ 2 ^ c = sizeT t ∧ c ≤ 16 := by
  simpa [okAll, Bool.and_eq_true, and_assoc] using h
theorem okStep_parts {s c n y x : Nat} (h : okStep s c n y x = true) : s < 65536 ∧ c ≤ 100 ∧ n < 65536 ∧ (n = 0 ∨ (n &&& (n - 1) = 0 ∧ s &&& n = 0 ∧ 4 ≤ y ∧ y ≤ 6 ∧ (y = 4 → 10 < x))) := by
  simp [okStep, Bool.and_eq_true] at h
  obtain ⟨⟨⟨a, b⟩, c⟩, d⟩ := h
  refine ⟨a, b, c, ?_⟩
  rcases d with d | ⟨⟨⟨⟨d1, d2⟩, d3⟩, d4⟩, d5⟩
  · exact Or.inl d
  · exact Or.inr ⟨d1, d2, d3, d4, fun e => by rcases d5 with d5 | d5 <;> omega⟩

set_option maxRecDepth 100000 in
set_option maxHeartbeats 4000000 in
theorem one_any (w : World) : Calls Try.prog 7 #[] w fun e w' => e = .returned (.bool true) ∧ Fr (fun _ => False) w w' := by
  have HW : Hid (∀ w', Calls Try.prog 26 #[.int .i64 20, .int .i64 9] w' fun e w'' => ∃ g, e = .returned (.agg #[.int .i64 20, .int .i64 9, .slice (some ⟨g, 0, none⟩) 9 9]) ∧ RowAt w'' g 9 20 9 (fun _ _ => false) ∧ Fr (fun _ => False) w' w'' ∧ w'.heap.size ≤ g) := fun w' => zwhite_any 20 9 w' (by omega) (by omega) (by omega)
  go_enter Try.func7, Try.ntmps7
  go_wp2_with fail
  refine (HW.out _).mono ?_
  rintro e w1 ⟨g, rfl, hr1, hf1, hg1⟩
  have HP : Hid (Calls Try.prog 24 #[.agg #[.int .i64 20, .int .i64 9, .slice (some ⟨g, 0, none⟩) 9 9], .int .i64 10, .int .i64 4, .int .i64 1] (w1.alloc (.cells #[.int .i64 20, .int .i64 9, .slice (some ⟨g, 0, none⟩) 9 9] 24)) fun e w'' => e = .returned (.tuple #[]) ∧ RowAt w'' g 9 20 9 oneP ∧ Fr (fun k => k = g) (w1.alloc (.cells #[.int .i64 20, .int .i64 9, .slice (some ⟨g, 0, none⟩) 9 9] 24)) w'') :=
    zput_any 20 9 g 9 _ 10 4 true _ (hr1.kept ((Fr.refl (fun _ => False) _).alloc _) (fun h => h)) (by omega) (by omega) (by omega) (by omega) (by omega)
  have HGL : Hid (g < w1.heap.size ∧ w.heap.size ≤ g) := ⟨hr1.lt, hg1⟩
  have HF1 : Hid (Fr (fun _ => False) w w1) := hf1
  clear hr1 hf1 hg1
  go_wp2_with fail
  refine HP.out.mono ?_
  rintro e w2 ⟨rfl, hr2, hf2⟩
  have HBm : Hid (∀ w', Fr (fun _ => False) w2 w' → Bm w' (.slice (some ⟨g, 0, none⟩) 9 9) 20 9 oneP) := fun w' hf => (Bm.of_row hr2 (by omega) (by omega) (by omega)).kept hf
  have HBX : Hid (∀ w', Fr (fun _ => False) w2 w' → w'.cell? ⟨w1.heap.size, 0, none⟩ = some (.int .i64 20) ∧ w'.cell? ⟨w1.heap.size, 1, none⟩ = some (.int .i64 9) ∧ w'.cell? ⟨w1.heap.size, 2, none⟩ = some (.slice (some ⟨g, 0, none⟩) 9 9)) := fun w' hf => by
    have h0 : w2.heap[w1.heap.size]? = some (.cells #[.int .i64 20, .int .i64 9, .slice (some ⟨g, 0, none⟩) 9 9] 24 (0, 0)) := by
      rw [hf2.block _ (by simp) (by have := HGL.out; omega)]; exact heap_alloc_new _ _
    obtain ⟨c0, c1, c2, _⟩ := cell_of_three (blkOld hf h0)
    exact ⟨c0, c1, c2⟩
  have HF2 : Hid (Fr (fun _ => False) w w2) := (HF1.out.alloc _).trans hf2 (fun i hi e => by have := HGL.out; omega)
  clear hr2 hf2 HP HW
  go_wp2_with fail
  go_loopw [2, 3, 4, 5, 6, 7, 8, 9, 10] (fun t _ _ _ _ _ _ _ _ wr => ∃ k : Nat, k ≤ 4 ∧ t = .int .i64 k ∧ Fr (fun _ => False) w2 wr) (fun t _ _ _ _ _ _ _ _ _ => 4 - (intOf t).toNat)
  case atStart => exact ⟨0, by omega, rfl, Fr.refl _ _⟩
  case round =>
    obtain ⟨t, hk, rfl, hfr⟩ := hrel
    have HFr : Hid (Fr (fun _ => False) w2 wr) := hfr
    clear hfr
    by_cases ht : t < 4
    · have HT : Hid (t < 4) := ht
      have hdt : decide ((t : Int) < 4) = true := decide_eq_true (by omega)
      go_wp2_with fail
      go_loopw [3, 4, 5, 6, 7, 8] (fun s c y _ _ _ wi => ∃ S C Y : Nat, Y ≤ 9 ∧ s = .int .i64 S ∧ c = .int .i64 C ∧ y = .int .i64 Y ∧ okAll t (180 - (20 * Y + 0)) S C (20 * Y + 0) = true ∧ Fr (fun _ => False) w2 wi) (fun _ _ y _ _ _ _ => 9 - (intOf y).toNat)
      case atStart => exact ⟨0, 0, 0, by omega, rfl, rfl, rfl, okAll_any t HT.out, HFr.out⟩
      case round =>
        obtain ⟨S, C, Y, hY, rfl, rfl, rfl, hok, hfi⟩ := hrel
        have HOk : Hid (okAll t (180 - (20 * Y + 0)) S C (20 * Y + 0) = true) := hok
        have HFi : Hid (Fr (fun _ => False) w2 wr) := hfi
        clear hok hfi
        by_cases hy9 : Y < 9
        · have hdy : decide ((Y : Int) < 9) = true := decide_eq_true (by omega)
          go_wp2_with fail
          go_loopw [3, 4, 6, 7, 8] (fun s c x _ _ wi => ∃ S C X : Nat, X ≤ 20 ∧ s = .int .i64 S ∧ c = .int .i64 C ∧ x = .int .i64 X ∧ okAll t (180 - (20 * Y + X)) S C (20 * Y + X) = true ∧ Fr (fun _ => False) w2 wi) (fun _ _ x _ _ _ => 20 - (intOf x).toNat)
          case atStart => exact ⟨S, C, 0, by omega, rfl, rfl, rfl, HOk.out, HFi.out⟩
          case round =>
            obtain ⟨S, C, X, hX, rfl, rfl, rfl, hok, hfi⟩ := hrel
            have HOk : Hid (okAll t (180 - (20 * Y + X)) S C (20 * Y + X) = true) := hok
            have HFi : Hid (Fr (fun _ => False) w2 wr) := hfi
            clear hok
            obtain ⟨c0, c1, c2⟩ := HBX.out wr hfi
            clear hfi
            by_cases hx20 : X < 20
            · obtain ⟨ho1, ho2⟩ := okAll_step hx20 hy9 HOk.out
              obtain ⟨o1, o2, o3, o4⟩ := okStep_parts ho1
              have HNx : Hid (okAll t (180 - (20 * Y + (X + 1))) (S ||| cv t Y X) (C + if cv t Y X = 0 then 0 else 1) (20 * Y + (X + 1)) = true) := ho2
              have HAt : Hid (Calls Try.prog 14 #[.agg #[.int .i64 20, .int .i64 9, .slice (some ⟨g, 0, none⟩) 9 9], .int .i64 t, .int .i64 X, .int .i64 Y] wr fun e w'' => e = .returned (.tuple #[.int .i64 (cv t Y X : Nat), .int .i64 0]) ∧ Fr (fun _ => False) wr w'') := at_ok 20 9 _ oneP t X Y wr (HBm.out _ HFi.out) HT.out (by omega) (by omega)
              clear ho1 ho2
              generalize cv t Y X = n at *
              have hor : bits .or .i64 (S : Int) (n : Int) = ((S ||| n : Nat) : Int) := bor64_nat _ _ (by omega) (by omega)
              rcases Nat.eq_zero_or_pos n with hn | hn
              · subst hn
                have hq1 : bits .and .i64 0 (-1) = 0 := by decide +kernel
                have hq2 : bits .or .i64 (S : Int) 0 = (S : Int) := by have := bor64_nat S 0 (by omega) (by omega); simpa using this
                have HNy : Hid (okAll t (180 - (20 * Y + (X + 1))) S C (20 * Y + (X + 1)) = true) := by have := HNx.out; rwa [show S ||| 0 = S by simp, if_pos rfl, Nat.add_zero] at this
                clear o4 hor
                go_wp2_with fail
                refine HAt.out.mono ?_
                rintro e w4 ⟨rfl, hf4⟩
                have HF4 : Hid (Fr (fun _ => False) w2 w4) := HFi.out.trans hf4 (fun _ _ h => h)
                clear hf4
                go_wp2_with fail
                go_roundw
                case rel => exact ⟨S, C, X + 1, by omega, rfl, rfl, congrArg (Value.int .i64) (by omega), HNy.out, HF4.out⟩
                case measure => simp [intOf]; omega
              · obtain ⟨p1, p2, p3, p4, p5⟩ : n &&& (n - 1) = 0 ∧ S &&& n = 0 ∧ 4 ≤ Y ∧ Y ≤ 6 ∧ (Y = 4 → 10 < X) := by rcases o4 with o4 | o4; omega; exact o4
                have hsb : IntKind.i64.wrap ((n : Int) - 1) = (n : Int) - 1 := by rw [IntKind.wrap_i64]; omega
                have hq1 : bits .and .i64 (n : Int) ((n : Int) - 1) = 0 := by
                  have := band64_nat n (n - 1) (by omega) (by omega)
                  rw [p1, show ((n - 1 : Nat) : Int) = (n : Int) - 1 by omega] at this
                  simpa using this
                have hq2 : bits .and .i64 (S : Int) (n : Int) = 0 := by
                  have := band64_nat S n (by omega) (by omega)
                  rw [p2] at this
                  simpa using this
                have hn1 : decide (0 < n) = true := decide_eq_true hn
                have hn2 : decide ((0 : Int) < (n : Int)) = true := decide_eq_true (by omega)
                have hy4 : decide ((Y : Int) < 4) = false := decide_eq_false (by omega)
                have hy6 : decide ((6 : Int) < (Y : Int)) = false := decide_eq_false (by omega)
                have HNy : Hid (okAll t (180 - (20 * Y + (X + 1))) (S ||| n) (C + 1) (20 * Y + (X + 1)) = true) := by have := HNx.out; rwa [if_neg (by omega)] at this
                have HC : Hid (C ≤ 100) := o2
                have hcw : IntKind.i64.wrap ((C : Int) + 1) = (C : Int) + 1 := by rw [IntKind.wrap_i64]; omega
                by_cases hY4 : Y = 4
                · have hX10 : 10 < X := p5 hY4
                  have hye : ((Y : Int) == 4) = true := by simp; omega
                  have hx10 : decide ((X : Int) ≤ 10) = false := decide_eq_false (by omega)
                  clear o4 p1 p2 p5 o1 o2 o3 hY4
                  go_wp2_with fail
                  refine HAt.out.mono ?_
                  rintro e w4 ⟨rfl, hf4⟩
                  have HF4 : Hid (Fr (fun _ => False) w2 w4) := HFi.out.trans hf4 (fun _ _ h => h)
                  clear hf4
                  go_wp2_with fail
                  go_roundw
                  case rel => exact ⟨S ||| n, C + 1, X + 1, by omega, rfl, congrArg (Value.int .i64) (by omega), congrArg (Value.int .i64) (by omega), HNy.out, HF4.out⟩
                  case measure => simp [intOf]; omega
                · have hye : ((Y : Int) == 4) = false := by simp; omega
                  clear o4 p1 p2 p5 o1 o2 o3
                  go_wp2_with fail
                  refine HAt.out.mono ?_
                  rintro e w4 ⟨rfl, hf4⟩
                  have HF4 : Hid (Fr (fun _ => False) w2 w4) := HFi.out.trans hf4 (fun _ _ h => h)
                  clear hf4
                  go_wp2_with fail
                  go_roundw
                  case rel => exact ⟨S ||| n, C + 1, X + 1, by omega, rfl, congrArg (Value.int .i64) (by omega), congrArg (Value.int .i64) (by omega), HNy.out, HF4.out⟩
                  case measure => simp [intOf]; omega
            · obtain rfl : X = 20 := by omega
              go_wp2_with fail
              go_roundw
              case rel => exact ⟨S, C, Y + 1, by omega, rfl, rfl, congrArg (Value.int .i64) (by omega), HOk.out, HFi.out⟩
              case measure => simp [intOf]; omega
        · obtain rfl : Y = 9 := by omega
          obtain ⟨r1, r2, r3⟩ := okAll_end HOk.out
          have HSz : Hid (∀ w', Calls Try.prog 10 #[.int .i64 t] w' fun e w'' => e = .returned (.tuple #[.int .i64 (sizeT t : Nat), .int .i64 0]) ∧ Fr (fun _ => False) w' w'') := fun w' => size_any t HT.out w'
          have hp16 : 2 ^ C ≤ 2 ^ 16 := Nat.pow_le_pow_right (by omega) r3
          generalize sizeT t = Z at *
          have hce : ((2 : Int) ^ C) = (Z : Int) := by rw [← r2, Int.natCast_pow]; rfl
          have hmin : min C 64 = C := by omega
          have hw1 : IntKind.i64.wrap (2 ^ C) = (Z : Int) := by rw [hce, IntKind.wrap_i64]; omega
          have hw2 : IntKind.i64.wrap ((Z : Int) - 1) = (S : Int) := by rw [IntKind.wrap_i64]; omega
          have hu : IntKind.u64.wrap (C : Int) = (C : Int) := by rw [IntKind.wrap_u64]; omega
          have hne1 : ((S : Int) != (S : Int)) = false := by simp
          have hne2 : ((Z : Int) != (Z : Int)) = false := by simp
          clear r1 r2 hp16 hce
          go_wp2_with fail
          refine (HSz.out _).mono ?_
          rintro e w5 ⟨rfl, hf5⟩
          have HF5 : Hid (Fr (fun _ => False) w2 w5) := HFi.out.trans hf5 (fun _ _ h => h)
          clear hf5
          go_wp2_with fail
          go_roundw
          case rel => exact ⟨t + 1, by omega, congrArg (Value.int .i64) (by omega), HF5.out⟩
          case measure => simp [intOf]; omega
    · obtain rfl : t = 4 := by omega
      go_wp2_with fail
      refine (wakes_any _).mono ?_
      rintro e w6 ⟨rfl, hf6⟩
      have HF6 : Hid (Fr (fun _ => False) w w6) := (HF2.out.trans HFr.out (fun _ _ h => h)).trans hf6 (fun _ _ h => h)
      clear hf6
      go_wp2_with fail
      go_ret
      exact ⟨rfl, HF6.out⟩

end Go.Proofs.Ytdgbojlcnkpepaa
