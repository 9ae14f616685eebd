/- 'BitmapSizes' returns true. -/
import Derived.Test.YtcopbjinnegfoaaWakes
namespace Go.Proofs.Ytcopbjinnegfoaa
open Go.RowKit

/-- Ints that a slice shows. -/
structure IntsAt (w : World) (ao : Option Addr) (n : Nat) (X : Nat → Int) : Prop where
  len : n ≤ 9223372036854775807
  cells : 0 < n → ∃ b off, ao = some ⟨b, off, none⟩ ∧ ∀ j, j < n → w.cell? ⟨b, off + j, none⟩ = some (.int .i64 (X j))
  bound : ∀ j, j < n → -9223372036854775808 ≤ X j ∧ X j ≤ 9223372036854775807

theorem cell_lt {w : World} {b o : Nat} {v : Value} (h : w.cell? ⟨b, o, none⟩ = some v) : b < w.heap.size := by
  unfold World.cell? at h
  rcases Nat.lt_or_ge b w.heap.size with h1 | h1
  · exact h1
  · rw [Array.getElem?_eq_none h1] at h; simp at h

set_option maxRecDepth 100000 in
set_option maxHeartbeats 1000000 in
theorem refSize_any (x y : Int) (w : World) (hx : -9223372036854775808 ≤ x ∧ x ≤ 9223372036854775807) (hy : -9223372036854775808 ≤ y ∧ y ≤ 9223372036854775807) :
    Calls Try.prog 9 #[.int .i64 x, .int .i64 y] w fun e w' => e = .returned (.bool (sizeOK x y)) ∧ w' = w := by
  go_enter Try.func9, Try.ntmps9
  by_cases h0 : 1 ≤ x
  · by_cases h1 : 1 ≤ y
    · by_cases h2 : x ≤ 1048576
      · go_wp2
        go_ret
        refine ⟨?_, rfl⟩
        have : decide (y ≤ 1048576 / x) = sizeOK x y := by
          rw [sizeOK_of y x h1 h0]; unfold sizeOK; rw [decide_eq_decide, Int.mul_comm y x]; omega
        rw [← this]; rfl
      · go_wp2
        go_ret
        refine ⟨?_, rfl⟩
        have : sizeOK x y = false := by
          unfold sizeOK
          refine decide_eq_false ?_
          rintro ⟨_, _, h3⟩
          have : x * 1 ≤ x * y := Int.mul_le_mul_of_nonneg_left h1 (by omega)
          omega
        rw [this]; rfl
    · go_wp2
      go_ret
      exact ⟨by simp [sizeOK]; omega, rfl⟩
  · go_wp2
    go_ret
    exact ⟨by simp [sizeOK]; omega, rfl⟩

theorem pop_pow : ∀ k : Fin 64, pop 64 (2 ^ k.val) = 1 := by decide +kernel
theorem pops_replicate (n : Nat) : pops (List.replicate n 0) = 0 := by
  induction n with
  | zero => rfl
  | succ n ih =>
    have h : pops (List.replicate (n + 1) 0) = pop 64 0 + pops (List.replicate n 0) := by simp [pops, List.replicate_succ]
    rw [h, ih, pop_zero]
theorem pops_set (n i x : Nat) (h : i < n) : pops ((List.replicate n 0).set i x) = pop 64 x := by
  rw [List.set_eq_take_append_cons_drop, if_pos (by simpa using h), pops_append]
  have h1 : pops ((List.replicate n 0).take i) = 0 := by rw [List.take_replicate]; exact pops_replicate _
  have h2 : pops (x :: (List.replicate n 0).drop (i + 1)) = pop 64 x + pops ((List.replicate n 0).drop (i + 1)) := by simp [pops]
  rw [h1, h2, List.drop_replicate, pops_replicate]
  omega
theorem white_count (W H : Nat) : pops (render W H fun _ _ => false) = 0 := by rw [render_white]; exact pops_replicate _
theorem one_count (W H : Nat) (hW : 1 ≤ W) (hH : 1 ≤ H) : pops (render W H (laidAll (fun _ _ => false) (H - 1) (W - 1) 1 fun _ => decide (1 = 1))) = 1 := by
  have hj : (W - 1) / 64 < stride W := by unfold stride; omega
  have hx : 2 ^ (63 - (W - 1) % 64) < 18446744073709551616 := Nat.pow_lt_pow_right (n := 64) (by omega) (by omega)
  rw [← render_set (P := fun _ _ => false) (y := H - 1) (j := (W - 1) / 64) (x := 2 ^ (63 - (W - 1) % 64)) (by omega) hj hx ?_ ?_, render_white, pops_set _ _ _ (at_lt (by omega) hj)]
  · exact pop_pow ⟨63 - (W - 1) % 64, by omega⟩
  · intro k hk
    rw [Nat.testBit_two_pow]
    unfold laidAll
    by_cases h1 : k = (W - 1) % 64
    · have h2 : 64 * ((W - 1) / 64) + k = W - 1 := by omega
      rw [decide_eq_true (show 63 - (W - 1) % 64 = 63 - k by omega), h2, if_pos ⟨rfl, by omega, by omega⟩, decide_eq_true (show W - 1 < W by omega)]
      rfl
    · rw [decide_eq_false (show ¬ 63 - (W - 1) % 64 = 63 - k by omega), if_neg (by omega)]
      simp
  · intro a b ha hb hn
    unfold laidAll
    rw [if_neg]
    rintro ⟨h1, h2, h3⟩
    apply hn
    refine ⟨h1, ?_⟩
    have : a = W - 1 := by omega
    rw [this]

theorem set_out' (b g cap W H : Nat) (P : Nat → Nat → Bool) (x y bit : Int) (w : World) (h : MapAt w b g cap W H P) (hx : ¬ (0 ≤ x ∧ x < W ∧ 0 ≤ y ∧ y < H)) :
    Calls Try.prog 12 #[.pointer (some ⟨b, 0, none⟩), .int .i64 x, .int .i64 y, .int .i64 bit] w fun e w' => e = .returned (.int .i64 22) ∧ w' = w := set_out b g cap W H P x y bit w h hx

set_option maxRecDepth 100000 in
set_option maxHeartbeats 4000000 in
theorem sizes_any (ao bo : Option Addr) (n m ca cb : Nat) (X Y : Nat → Int) (w : World) (ha : IntsAt w ao n X) (hb : IntsAt w bo m Y) :
    Calls Try.prog 3 #[.agg #[.slice ao n ca, .slice bo m cb]] w fun e w' => e = .returned (.bool true) ∧ Fr (fun _ => False) w w' := by
  have HX : Hid (IntsAt w ao n X) := ha
  have HY : Hid (IntsAt w bo m Y) := hb
  have hn1 := ha.len
  have hm1 := hb.len
  clear ha hb
  go_enter Try.func3, Try.ntmps3
  go_wp2_with fail
  go_loopw [3] (fun i wr => ∃ k : Nat, k ≤ n ∧ k ≤ m ∧ k ≤ 12 ∧ i = .int .i64 k ∧ Fr (fun _ => False) (w.alloc (.cells #[.slice ao n ca, .slice bo m cb] 24)) wr) (fun i _ => 12 - (intOf i).toNat)
  case atStart => exact ⟨0, Nat.zero_le _, Nat.zero_le _, Nat.zero_le _, rfl, Fr.refl _ _⟩
  case round =>
    obtain ⟨k, hk1, hk2, hk3, rfl, hfr⟩ := hrel
    have HF : Hid (Fr (fun _ => False) (w.alloc (.cells #[.slice ao n ca, .slice bo m cb] 24)) wr) := hfr
    have hB : wr.heap[w.heap.size]? = some (.cells #[.slice ao n ca, .slice bo m cb] 24 (0, 0)) := by
      rw [hfr.block w.heap.size (by simp) (fun hh => hh)]; exact heap_alloc_new _ _
    have c0 : wr.cell? ⟨w.heap.size, 0, none⟩ = some (.slice ao n ca) := by unfold World.cell?; rw [hB]; rfl
    have c1 : wr.cell? ⟨w.heap.size, 1, none⟩ = some (.slice bo m cb) := by unfold World.cell?; rw [hB]; rfl
    clear hfr hB
    by_cases hlt : k < n ∧ k < m ∧ k < 12
    · obtain ⟨hl1, hl2, hl3⟩ := hlt
      obtain ⟨b1, o1, rfl, hc1⟩ := HX.out.cells (by omega)
      obtain ⟨b2, o2, rfl, hc2⟩ := HY.out.cells (by omega)
      have hx := HX.out.bound k hl1
      have hy := HY.out.bound k hl2
      have e1 : wr.cell? ⟨b1, o1 + k, none⟩ = some (.int .i64 (X k)) := by
        rw [(((Fr.refl (fun _ => False) w).alloc _).trans HF.out (fun _ _ hh => hh)).cell (cell_lt (hc1 k hl1)) (fun hh => hh)]; exact hc1 k hl1
      have e2 : wr.cell? ⟨b2, o2 + k, none⟩ = some (.int .i64 (Y k)) := by
        rw [(((Fr.refl (fun _ => False) w).alloc _).trans HF.out (fun _ _ hh => hh)).cell (cell_lt (hc2 k hl2)) (fun hh => hh)]; exact hc2 k hl2
      clear hc1 hc2
      generalize X k = x at *
      generalize Y k = y at *
      by_cases hs : sizeOK x y = true
      · have hss := hs
        unfold sizeOK at hss
        obtain ⟨h1, h2, h3⟩ := of_decide_eq_true hss
        obtain ⟨W, rfl⟩ : ∃ W : Nat, x = W := ⟨x.toNat, by omega⟩
        obtain ⟨H, rfl⟩ : ∃ H : Nat, y = H := ⟨y.toNat, by omega⟩
        have h3' : W * H ≤ 1048576 := by have := h3; rw [← Int.natCast_mul] at this; omega
        obtain ⟨f1, f2, f3⟩ := size_facts (show 1 ≤ W by omega) (show 1 ≤ H by omega) h3'
        have HA : Hid (W * H ≤ 1048576) := h3'
        clear hss h3 h3' f3
        have hW1 : 1 ≤ W := by omega
        have hH1 : 1 ≤ H := by omega
        go_wp2_with fail
        refine (new_yes' _ _ W H _ rfl rfl hW1 hH1 HA.out).mono ?_
        rintro e w1 ⟨b, g, rfl, hn⟩
        obtain ⟨C, hC⟩ : ∃ C, C = H * stride W := ⟨_, rfl⟩
        rw [← hC] at hn
        clear hC
        have HM : Hid (MapAt w1 b g C W H (fun _ _ => false)) := hn.at_
        have HG : Hid (w.heap.size ≤ g ∧ g ≠ w.heap.size) := by have h1 := hn.ng; have h2 := HF.out.size; simp at h2; exact ⟨by omega, by omega⟩
        have HF1 : Hid (Fr (fun _ => False) (w.alloc (.cells #[.slice (some ⟨b1, o1, none⟩) n ca, .slice (some ⟨b2, o2, none⟩) m cb] 24)) w1) := HF.out.trans hn.fr (fun _ _ hh => hh)
        have HGW : Hid (w.heap.size + 1 ≤ g) := by have h1 := hn.ng; have h2 := HF.out.size; simp at h2; show _ ≤ _; omega
        clear hn HF
        go_wp2_with fail
        refine (refSize_any _ _ _ hx hy).mono ?_
        rintro e w2 ⟨rfl, rfl⟩
        rw [hs]
        go_wp2_with fail
        refine (count_is b g C W H _ 0 _ HM.out (white_count W H)).mono ?_
        rintro e w3 ⟨rfl, q3, hw3⟩
        have HM3 : Hid (MapAt w3 b g C W H (fun _ _ => false)) := by rw [hw3]; exact HM.out.drewN q3
        have HF3 : Hid (Fr (fun _ => False) (w.alloc (.cells #[.slice (some ⟨b1, o1, none⟩) n ca, .slice (some ⟨b2, o2, none⟩) m cb] 24)) w3) := by rw [hw3]; exact HF1.out.drewN q3
        clear hw3 HM HF1
        go_wp2_with fail
        refine (get_in' b g C W H _ _ _ (W - 1) (H - 1) 0 _ (by omega) (by omega) rfl HM3.out (by omega) (by omega)).mono ?_
        rintro e w4 ⟨rfl, q4, hw4⟩
        have HM4 : Hid (MapAt w4 b g C W H (fun _ _ => false)) := by rw [hw4]; exact HM3.out.drewN q4
        have HF4 : Hid (Fr (fun _ => False) (w.alloc (.cells #[.slice (some ⟨b1, o1, none⟩) n ca, .slice (some ⟨b2, o2, none⟩) m cb] 24)) w4) := by rw [hw4]; exact HF3.out.drewN q4
        clear hw4 HM3 HF3
        go_wp2_with fail
        refine (set_in' b g C W H _ _ _ _ (W - 1) (H - 1) 1 _ (by omega) (by omega) rfl HM4.out (by omega) (by omega) (by omega)).mono ?_
        rintro e w5 ⟨rfl, hm5, hf5⟩
        obtain ⟨P1, hP1⟩ : ∃ P1, P1 = laidAll (fun _ _ => false) (H - 1) (W - 1) 1 (fun _ => decide (1 = 1)) := ⟨_, rfl⟩
        rw [← hP1] at hm5
        have HC1 : Hid (pops (render W H P1) = 1) := by rw [hP1]; exact one_count W H hW1 hH1
        have HP1 : Hid ((P1 (W - 1) (H - 1)).toNat = 1) := by show _ = _; rw [hP1]; unfold laidAll; rw [if_pos ⟨rfl, by omega, by omega⟩]; rfl
        have HM5 : Hid (MapAt w5 b g C W H P1) := hm5
        have HF5 : Hid (Fr (fun _ => False) (w.alloc (.cells #[.slice (some ⟨b1, o1, none⟩) n ca, .slice (some ⟨b2, o2, none⟩) m cb] 24)) w5) := HF4.out.trans hf5 (fun i hi e => by have := HGW.out; simp at hi; omega)
        clear hm5 hf5 HM4 HF4 hP1
        go_wp2_with fail
        refine (set_out' b g C W H P1 _ _ _ _ HM5.out (by omega)).mono ?_
        rintro e w6 ⟨rfl, rfl⟩
        go_wp2_with fail
        refine (set_out' b g C W H P1 _ _ _ _ HM5.out (by omega)).mono ?_
        rintro e w7 ⟨rfl, rfl⟩
        go_wp2_with fail
        refine (count_is b g C W H P1 1 _ HM5.out HC1.out).mono ?_
        rintro e w8 ⟨rfl, q8, hw8⟩
        have HM8 : Hid (MapAt w8 b g C W H P1) := by rw [hw8]; exact HM5.out.drewN q8
        have HF8 : Hid (Fr (fun _ => False) (w.alloc (.cells #[.slice (some ⟨b1, o1, none⟩) n ca, .slice (some ⟨b2, o2, none⟩) m cb] 24)) w8) := by rw [hw8]; exact HF5.out.drewN q8
        clear hw8 HM5 HF5
        go_wp2_with fail
        refine (get_in' b g C W H P1 _ _ (W - 1) (H - 1) 1 _ (by omega) (by omega) HP1.out HM8.out (by omega) (by omega)).mono ?_
        rintro e w9 ⟨rfl, q9, hw9⟩
        have HM9 : Hid (MapAt w9 b g C W H P1) := by rw [hw9]; exact HM8.out.drewN q9
        have HF9 : Hid (Fr (fun _ => False) (w.alloc (.cells #[.slice (some ⟨b1, o1, none⟩) n ca, .slice (some ⟨b2, o2, none⟩) m cb] 24)) w9) := by rw [hw9]; exact HF8.out.drewN q9
        clear hw9 HM8 HF8
        go_wp2_with fail
        refine (get_out b g C W H P1 _ _ _ HM9.out (by omega)).mono ?_
        rintro e w10 ⟨rfl, rfl⟩
        go_wp2_with fail
        go_roundw
        case rel => exact ⟨k + 1, by omega, by omega, by omega, congrArg (Value.int .i64) (by omega), HF9.out⟩
        case measure => simp [intOf]; omega
      · have hs' : sizeOK x y = false := by simpa using hs
        clear hs
        go_wp2_with fail
        refine (new_no x y _ hx hy hs').mono ?_
        rintro e w1 ⟨rfl, rfl⟩
        go_wp2_with fail
        refine (refSize_any x y _ hx hy).mono ?_
        rintro e w2 ⟨rfl, rfl⟩
        rw [hs']
        go_wp2_with fail
        go_roundw
        case rel => exact ⟨k + 1, by omega, by omega, by omega, congrArg (Value.int .i64) (by omega), HF.out⟩
        case measure => simp [intOf]; omega
    · go_wp2_with fail
      all_goals
        refine (wakes_any _).mono ?_
        rintro e w9 ⟨rfl, hf9⟩
        have HF9 : Hid (Fr (fun _ => False) w w9) := (((Fr.refl (fun _ => False) w).alloc _).trans HF.out (fun _ _ hh => hh)).trans hf9 (fun _ _ hh => hh)
        clear hf9
        go_wp2_with fail
        go_ret
        exact ⟨rfl, HF9.out⟩

end Go.Proofs.Ytcopbjinnegfoaa
