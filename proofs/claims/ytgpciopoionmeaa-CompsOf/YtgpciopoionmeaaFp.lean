/- Package bitmap: what the other texts lack (XSmall, XSpan, XMake, XPaint, XLine, XClip, XBlits, XEq). -/
import Derived.Deep.QuietTactic
import Derived.BigQuiet
import Derived.BigRegion
import Derived.Laws.Bits128
import Derived.Deep.RegionHeld3
import Derived.Handy
import Derived.Lib.SliceRun
import Derived.Test.YtgpciopoionmeaaRefPut
namespace Go.Proofs.Ytgpciopoionmeaa
open Go.RowKit

theorem Fr.cell {S : Nat → Prop} {w w' : World} (f : Fr S w w') {b o : Nat} (hb : b < w.heap.size) (hs : ¬ S b) : w'.cell? ⟨b, o, none⟩ = w.cell? ⟨b, o, none⟩ := f.cellEq hb hs

set_option maxRecDepth 100000 in
set_option maxHeartbeats 1000000 in
theorem isBit_any (b : Int) (w : World) :
    Calls Try.prog 76 #[.int .i64 b] w fun e w' => e = .returned (.bool (decide (b = 0 ∨ b = 1))) ∧ w' = w := by
  go_enter Try.func76, Try.ntmps76
  by_cases h0 : b = 0
  · subst h0
    go_wp2
    go_ret
    exact ⟨by simp, rfl⟩
  · have h0' : (b == 0) = false := by simp [h0]
    go_wp2
    go_ret
    exact ⟨by simp [h0]; rw [Bool.beq_eq_decide_eq], rfl⟩

set_option maxRecDepth 100000 in
set_option maxHeartbeats 1000000 in
theorem row_any (b g cap W H : Nat) (P : Nat → Nat → Bool) (y : Nat) (w : World) (h : MapAt w b g cap W H P) (hy : y < H) :
    Calls Try.prog 49 #[.pointer (some ⟨b, 0, none⟩), .int .i64 y] w fun e w' => e = .returned (.slice (some ⟨g, y * stride W, none⟩) (stride W) (stride W)) ∧ ∃ q, w' = w.drewN q := by
  obtain ⟨c0, c1, c2, c3, cf⟩ := cell_of_four h.blk
  have hwl := h.words_le
  have hca : H * stride W ≤ cap ∧ cap ≤ maxLen := by
    rcases h.own.2 with ⟨e, _⟩ | ⟨g', cap', cur, e, _, _, hc, hm, _⟩
    · cases e
    · simp at e; obtain ⟨_, rfl⟩ := e; exact ⟨hc, hm⟩
  unfold maxLen at hca
  have hend : y * stride W + stride W ≤ H * stride W := by rw [← Nat.succ_mul]; exact Nat.mul_le_mul_right _ hy
  have hS := stride_pos h.wpos
  have hyb : (y : Int) ≤ 1048576 := by
    have := h.area
    have : 1 * H ≤ W * H := Nat.mul_le_mul_right _ h.wpos
    omega
  clear h cf c0 c1
  generalize stride W = S at *
  generalize H * S = N at *
  have hm1 : (y : Int) * (S : Int) = ((y * S : Nat) : Int) := by push_cast; rfl
  have hm2 : ((y : Int) + 1) * (S : Int) = ((y * S : Nat) : Int) + (S : Int) := by rw [Int.add_mul, hm1]; omega
  generalize y * S = a at *
  obtain ⟨hc1, hc2⟩ := hca
  have hn1 : ¬ a + S = a := by omega
  have hn2 : ¬ S = 0 := by omega
  go_enter Try.func49, Try.ntmps49
  go_wp2
  go_region
  go_wp2
  all_goals first | (exfalso; omega) | (go_ret; exact ⟨by simp, 1, rfl⟩)


set_option maxRecDepth 100000 in
set_option maxHeartbeats 1000000 in
theorem wordsOf_any (fr : Int) (to n : Nat) (w : World) (h : to ≤ 4194304) (hn : n ≤ 4194304) :
    Calls Try.prog 68 #[.agg #[.int .i64 fr, .int .i64 to, .int .i64 n]] w fun e w' => e = .returned (.tuple #[.int .i64 (fstW to n : Nat), .int .i64 (cntW to n : Nat)]) ∧ Fr (fun _ => False) w w' := by
  by_cases h0 : n = 0
  · subst h0
    go_enter Try.func68, Try.ntmps68
    go_wp2
    go_ret2
    exact ⟨by simp [fstW, cntW], (Fr.refl _ _).alloc _⟩
  · have h0' : ((n : Int) == 0) = false := by simp [h0]
    have hq1 : (to : Int) + n - 1 = ((to + n - 1 : Nat) : Int) := by omega
    go_enter Try.func68, Try.ntmps68
    go_wp2
    go_region
    go_wp2
    go_ret2
    refine ⟨?_, ((Fr.refl _ _).alloc _).drewN _⟩
    simp [fstW, cntW, h0]
    omega

set_option maxRecDepth 100000 in
set_option maxHeartbeats 1000000 in
theorem maskOf_any (fr : Int) (to n k : Nat) (w : World) (h : to ≤ 4194304) (hn : n ≤ 4194304) (h1 : to < 64 * k + 64) (h2 : 64 * k < to + n) :
    Calls Try.prog 69 #[.agg #[.int .i64 fr, .int .i64 to, .int .i64 n], .int .i64 k] w fun e w' => e = .returned (.int .u64 (wordOf fun i => decide (to ≤ 64 * k + i ∧ 64 * k + i < to + n) : Nat)) ∧ Fr (fun _ => False) w w' := by
  by_cases ha : (to : Int) - (k : Int) * 64 < 0
  · by_cases hb : 0 ≤ ((k : Int) + 1) * 64 - (to : Int) - (n : Int)
    · go_enter Try.func69, Try.ntmps69
      go_wp2
      go_region
      go_wp2
      go_ret
      refine ⟨congrArg (fun x => Ending.returned (Value.int .u64 x)) ((mask_num0 _ (by omega)).trans (congrArg Nat.cast (wordOf_congr fun i hi => decide_eq_decide.2 ?_))), ((Fr.refl _ _).alloc _).drewN _⟩
      omega
    · go_enter Try.func69, Try.ntmps69
      go_wp2
      go_region
      go_wp2
      go_ret
      refine ⟨congrArg (fun x => Ending.returned (Value.int .u64 x)) ((mask_num2).trans (congrArg Nat.cast (wordOf_congr fun i hi => decide_eq_decide.2 ?_))), ((Fr.refl _ _).alloc _).drewN _⟩
      omega
  · by_cases hb : 0 ≤ ((k : Int) + 1) * 64 - (to : Int) - (n : Int)
    · go_enter Try.func69, Try.ntmps69
      go_wp2
      go_region
      go_wp2
      go_ret
      refine ⟨congrArg (fun x => Ending.returned (Value.int .u64 x)) ((mask_num _ _ (by omega)).trans (congrArg Nat.cast (wordOf_congr fun i hi => decide_eq_decide.2 ?_))), ((Fr.refl _ _).alloc _).drewN _⟩
      omega
    · go_enter Try.func69, Try.ntmps69
      go_wp2
      go_region
      go_wp2
      go_ret
      refine ⟨congrArg (fun x => Ending.returned (Value.int .u64 x)) ((mask_num1 _).trans (congrArg Nat.cast (wordOf_congr fun i hi => decide_eq_decide.2 ?_))), ((Fr.refl _ _).alloc _).drewN _⟩
      omega


set_option maxRecDepth 100000 in
set_option maxHeartbeats 1000000 in
theorem gap_any (a b : Int) (w : World) (ha : -9223372036854775808 ≤ a ∧ a ≤ 9223372036854775807) (hb : -9223372036854775808 ≤ b ∧ b ≤ 9223372036854775807) :
    Calls Try.prog 82 #[.int .i64 a, .int .i64 b] w fun e w' => e = .returned (.int .u64 ((b - a).toNat : Nat)) ∧ w' = w := by
  by_cases h0 : b ≤ a
  · go_enter Try.func82, Try.ntmps82
    go_wp2
    go_ret
    exact ⟨by simp; omega, rfl⟩
  · go_enter Try.func82, Try.ntmps82
    go_wp2
    go_ret
    exact ⟨by simp [wrapu64]; omega, rfl⟩


theorem Try.info117 : (Try.prog.info? 62).map (fun i => (i.zero, i.size, i.bytes)) = some (some (.int .u64 0), 1, 8) := by kernel_rfl

set_option maxRecDepth 100000 in
set_option maxHeartbeats 1000000 in
theorem white_any (W H : Nat) (w : World) (h1 : 1 ≤ W) (h2 : 1 ≤ H) (h3 : W * H ≤ 1048576) :
    Calls Try.prog 48 #[.int .i64 W, .int .i64 H] w fun e w' => ∃ b g, e = .returned (.pointer (some ⟨b, 0, none⟩)) ∧ NewMap w w' b g (H * stride W) W H (fun _ _ => false) := by
  obtain ⟨i0, hi, hz0, hz1, hz2⟩ := info_parts Try.info117
  obtain ⟨f1, f2, f3⟩ := size_facts h1 h2 h3
  have HR : Hid (wordCells (render W H (fun _ _ => false)) = List.replicate (H * stride W) (.int .u64 0)) := by show _ = _; rw [render_white, wordCells_replicate]
  have HA : Hid (1 ≤ W ∧ 1 ≤ H ∧ W * H ≤ 1048576) := ⟨h1, h2, h3⟩
  have HN : Hid (∀ w1 w2 : World, (w2.ownsRow 0 62 1 (.slice (some ⟨w.heap.size, 0, none⟩) (H * stride W) (H * stride W)) (H * stride W) (wordCells (render W H (fun _ _ => false)))) → w2.heap[w1.heap.size]? = some (.cells #[.int .i64 W, .int .i64 H, .int .i64 (stride W : Nat), .slice (some ⟨w.heap.size, 0, none⟩) (H * stride W) (H * stride W)] 84 (0, 0)) → MapAt w2 w1.heap.size w.heap.size (H * stride W) W H (fun _ _ => false)) := fun w1 w2 a b => ⟨b, a, h1, h2, h3⟩
  clear h3
  go_enter Try.func48, Try.ntmps48
  go_wp2_with fail
  refine (strideOf_any W _ f1).mono ?_
  rintro e w1 ⟨rfl, rfl⟩
  have hm1 : (H : Int) * (stride W : Int) = ((H * stride W : Nat) : Int) := by push_cast; rfl
  generalize hgS : stride W = S at HR HN hm1 f3 ⊢
  generalize hgN : H * S = N at HR HN hm1 f3
  have HSN : Hid (stride W = S ∧ H * S = N) := ⟨hgS, hgN⟩
  clear hgS hgN
  go_wp2_with (first | (at_make; refine wpList_make_full _ rfl _ _ 23 rfl w1.heap.size 62 i0 (.int .u64 0) 1 Try.underlying23 hi hz0 hz1 .i64 .i64 _ _ N rfl rfl ?_ ?_ ?_ ?_ ?_ ?_))
  · omega
  · omega
  · rw [hz2]; omega
  · unfold maxLen; omega
  · omega
  · intro w2 hown hgrow
    have HG : Hid (w1.grownBy w2 none) := hgrow
    have HO : Hid (w2.ownsRow w1.heap.size 62 1 (.slice (some ⟨w1.heap.size, 0, none⟩) N N) N (List.replicate N (.int .u64 0))) := by rw [← toList_madeCells_one]; exact hown
    clear hgrow hown
    go_wp2
    go_ret
    have hsz : w1.heap.size ≤ w2.heap.size := HG.out.size
    refine ⟨w2.heap.size, w1.heap.size, rfl, ?_, ((Fr.refl _ _).grown HG.out (fun _ e _ => by cases e)).alloc _, hsz, Nat.le_refl _⟩
    rw [HSN.out.1, HSN.out.2]
    refine HN.out w2 _ ?_ (heap_alloc_new _ _)
    rw [HR.out]
    exact (ownsRow_base HO.out (fun _ _ => Nat.zero_le _)).alloc _

set_option maxRecDepth 100000 in
set_option maxHeartbeats 1000000 in
theorem new_yes (W H : Nat) (w : World) (h1 : 1 ≤ W) (h2 : 1 ≤ H) (h3 : W * H ≤ 1048576) :
    Calls Try.prog 41 #[.int .i64 W, .int .i64 H] w fun e w' => ∃ b g, e = .returned (.tuple #[.pointer (some ⟨b, 0, none⟩), .int .i64 0]) ∧ NewMap w w' b g (H * stride W) W H (fun _ _ => false) := by
  obtain ⟨f1, f2, f3⟩ := size_facts h1 h2 h3
  have hs : sizeOK (W : Int) (H : Int) = true := by
    unfold sizeOK
    refine decide_eq_true ⟨by omega, by omega, ?_⟩
    rw [← Int.natCast_mul]; omega
  have HA : Hid (1 ≤ W ∧ 1 ≤ H ∧ W * H ≤ 1048576) := ⟨h1, h2, h3⟩
  clear h1 h2 h3
  go_enter Try.func41, Try.ntmps41
  go_wp2_with fail
  refine (isSize_any W H _ (by omega) (by omega)).mono ?_
  rintro e w1 ⟨rfl, rfl⟩
  rw [hs]
  go_wp2_with fail
  refine (white_any W H _ HA.out.1 HA.out.2.1 HA.out.2.2).mono ?_
  rintro e w2 ⟨b, g, rfl, hn⟩
  have HN : Hid (NewMap w1 w2 b g (H * stride W) W H (fun _ _ => false)) := hn
  clear hn
  go_wp2_with fail
  go_ret2
  exact ⟨b, g, rfl, HN.out⟩

set_option maxRecDepth 100000 in
set_option maxHeartbeats 1000000 in
theorem new_no (x y : Int) (w : World) (hx : -9223372036854775808 ≤ x ∧ x ≤ 9223372036854775807) (hy : -9223372036854775808 ≤ y ∧ y ≤ 9223372036854775807) (hs : sizeOK x y = false) :
    Calls Try.prog 41 #[.int .i64 x, .int .i64 y] w fun e w' => e = .returned (.tuple #[.pointer none, .int .i64 20]) ∧ w' = w := by
  go_enter Try.func41, Try.ntmps41
  go_wp2_with fail
  refine (isSize_any x y _ hx hy).mono ?_
  rintro e w1 ⟨rfl, rfl⟩
  rw [hs]
  go_wp2_with fail
  go_ret2
  exact ⟨rfl, rfl⟩


theorem maskOf_any' (fr x : Int) (to n k : Nat) (w : World) (hx : x = k) (h : to ≤ 4194304) (hn : n ≤ 4194304) (h1 : to < 64 * k + 64) (h2 : 64 * k < to + n) :
    Calls Try.prog 69 #[.agg #[.int .i64 fr, .int .i64 to, .int .i64 n], .int .i64 x] w fun e w' => e = .returned (.int .u64 (spanMask to n k : Nat)) ∧ Fr (fun _ => False) w w' := by
  subst hx; exact maskOf_any fr to n k w h hn h1 h2

set_option maxRecDepth 100000 in
set_option maxHeartbeats 1000000 in
theorem paint_any (b g cap W H : Nat) (P : Nat → Nat → Bool) (y to n bit : Nat) (fr : Int) (w : World) (h : MapAt w b g cap W H P) (hy : y < H) (ht : to + n ≤ W) (hbit : bit ≤ 1) :
    Calls Try.prog 77 #[.slice (some ⟨g, y * stride W, none⟩) (stride W) (stride W), .agg #[.int .i64 fr, .int .i64 to, .int .i64 n], .int .i64 bit] w fun e w' => e = .returned (.tuple #[]) ∧ MapAt w' b g cap W H (laidAll P y to n fun _ => decide (bit = 1)) ∧ Fr (fun k => k = g) w w' := by
  have HA : Hid (MapAt w b g cap W H P) := h
  obtain ⟨f1, f2, f3⟩ := size_facts h.wpos h.hpos h.area
  have hgl := h.glt
  clear h
  go_enter Try.func77, Try.ntmps77
  go_wp2_with fail
  refine (wordsOf_any fr to n _ (by omega) (by omega)).mono ?_
  rintro e w1 ⟨rfl, hf1⟩
  have HF1 : Hid (Fr (fun _ => False) (w.alloc (.cells #[.int .i64 fr, .int .i64 to, .int .i64 n] 87)) w1) := hf1
  clear hf1
  go_wp2_with fail
  go_loopw [16] (fun i wr => ∃ k : Nat, k ≤ cntW to n ∧ i = .int .i64 k ∧ MapAt wr b g cap W H (laid P y to n (fun _ => decide (bit = 1)) k) ∧ Fr (fun k => k = g) (w.alloc (.cells #[.int .i64 fr, .int .i64 to, .int .i64 n] 87)) wr) (fun i _ => cntW to n - (intOf i).toNat)
  case atStart => exact ⟨0, Nat.zero_le _, rfl, by rw [laid_zero]; exact HA.out.kept (((Fr.refl (fun _ => False) _).alloc _).trans HF1.out (fun _ _ hh => hh)) (fun hh => hh) (fun hh => hh), HF1.out.mono (fun _ _ hh => hh.elim)⟩
  case round =>
    obtain ⟨k, hk, rfl, hat, hfr⟩ := hrel
    have HM : Hid (MapAt wr b g cap W H (laid P y to n (fun _ => decide (bit = 1)) k)) := hat
    have HF : Hid (Fr (fun k => k = g) (w.alloc (.cells #[.int .i64 fr, .int .i64 to, .int .i64 n] 87)) wr) := hfr
    have hB : wr.heap[w.heap.size]? = some (.cells #[.int .i64 fr, .int .i64 to, .int .i64 n] 87 (0, 0)) := by
      rw [hfr.block w.heap.size (by simp) (by omega)]; exact heap_alloc_new _ _
    have c0 : wr.cell? ⟨w.heap.size, 0, none⟩ = some (.int .i64 fr) := by simp [World.cell?, hB]
    have c1 : wr.cell? ⟨w.heap.size, 1, none⟩ = some (.int .i64 to) := by simp [World.cell?, hB]
    have c2 : wr.cell? ⟨w.heap.size, 2, none⟩ = some (.int .i64 n) := by simp [World.cell?, hB]
    clear hat hfr hB
    by_cases hlt : k < cntW to n
    · have hin := cnt_in hlt
      have hst := cnt_stride hlt ht
      have hwl : wd W P y (fstW to n + k) < 18446744073709551616 := wd_lt _ _ _ _
      have hsb : stride W ≤ 1048576 := by unfold stride; omega
      have HS : Hid (∀ (w2 : World) (x : Nat), MapAt w2 b g cap W H (laid P y to n (fun _ => decide (bit = 1)) k) → x < 18446744073709551616 → (∀ i, i < 64 → x.testBit (63 - i) = if to ≤ 64 * (fstW to n + k) + i ∧ 64 * (fstW to n + k) + i < to + n then decide (bit = 1) else (wd W P y (fstW to n + k)).testBit (63 - i)) → MapAt (w2.setCell ⟨g, y * stride W + (fstW to n + k), none⟩ (.int .u64 (x : Int))) b g cap W H (laid P y to n (fun _ => decide (bit = 1)) (k + 1))) := fun w2 x a b c => a.step hlt ht hy b c
      go_wp2_with fail
      refine (maskOf_any' fr _ to n (fstW to n + k) _ (by push_cast; rfl) (by omega) (by omega) hin.2.1 hin.2.2).mono ?_
      rintro e w2 ⟨rfl, hf2⟩
      have HM2 : Hid (MapAt w2 b g cap W H (laid P y to n (fun _ => decide (bit = 1)) k)) := HM.out.kept hf2 (fun hh => hh) (fun hh => hh)
      have HF2 : Hid (Fr (fun k => k = g) (w.alloc (.cells #[.int .i64 fr, .int .i64 to, .int .i64 n] 87)) w2) := HF.out.trans hf2 (fun _ _ hh => hh.elim)
      have hc := HM2.out.word hy hst
      rw [laid_wd] at hc
      have hfz := HM2.out.own.frozenAt (y * stride W + (fstW to n + k))
      have hml := spanMask_lt to n (fstW to n + k)
      have HB : Hid (∀ i, i < 64 → (spanMask to n (fstW to n + k)).testBit (63 - i) = decide (to ≤ 64 * (fstW to n + k) + i ∧ 64 * (fstW to n + k) + i < to + n)) := fun i hi => spanMask_bit _ _ _ _ hi
      clear HM HF hf2 c0 c1 c2 hin
      generalize spanMask to n (fstW to n + k) = m at *
      generalize wd W P y (fstW to n + k) = D at *
      obtain ⟨X1, hX1⟩ : ∃ X1, X1 = D &&& 18446744073709551615 - m := ⟨_, rfl⟩
      have k1 : bits .andNot .u64 (D : Int) (m : Int) = (X1 : Int) := by rw [hX1]; exact u64_andNot_nat D m hwl hml
      have hX1l : X1 < 18446744073709551616 := by rw [hX1]; exact Nat.lt_of_le_of_lt Nat.and_le_left hwl
      have k2 : bits .or .u64 (X1 : Int) (m : Int) = ((X1 ||| m : Nat) : Int) := u64_or_nat X1 m hX1l hml
      have HX : Hid (∀ i, i < 64 → X1.testBit (63 - i) = (D.testBit (63 - i) && !m.testBit (63 - i))) := fun i hi => by rw [hX1]; exact not_mask D m hml _ (by omega)
      have HX2 : Hid ((X1 ||| m) < 18446744073709551616) := Nat.or_lt_two_pow (n := 64) hX1l hml
      have HX1 : Hid (X1 < 18446744073709551616) := hX1l
      clear hX1 hml hwl hX1l
      rcases (show bit = 0 ∨ bit = 1 from by omega) with hb | hb
      · have hbe : ((bit : Int) == 1) = false := by simp [hb]
        have HBT : Hid (bit = 0) := hb
        clear hb
        go_wp2_with fail
        go_roundw
        case rel =>
          refine ⟨k + 1, by omega, congrArg (Value.int .i64) (by omega), HS.out w2 X1 HM2.out HX1.out ?_, HF2.out.setCell (fun _ => rfl) _⟩
          intro i hi
          rw [HX.out i hi, HB.out i hi]
          split <;> simp [HBT.out, *]
        case measure => simp [intOf]; omega
      · have hbe : ((bit : Int) == 1) = true := by simp [hb]
        have HBT : Hid (bit = 1) := hb
        clear hb
        go_wp2_with fail
        go_roundw
        case rel =>
          refine ⟨k + 1, by omega, congrArg (Value.int .i64) (by omega), ?_, (HF2.out.setCell (fun _ => rfl) _).setCell (fun _ => rfl) _⟩
          rw [setCell_twice]
          refine HS.out w2 (X1 ||| m) HM2.out HX2.out ?_
          intro i hi
          rw [Nat.testBit_or, HX.out i hi, HB.out i hi]
          split <;> simp [HBT.out, *]
        case measure => simp [intOf]; omega
    · have hkn : k = cntW to n := by omega
      subst hkn
      go_wp2_with fail
      go_end0
      refine ⟨rfl, by rw [← laid_all]; exact HM.out, ?_⟩
      exact ((Fr.refl (fun k => k = g) w).alloc _).trans HF.out (fun _ _ hh => hh)


/-- The pixel at place p of a line of words. -/
def linePix (l : List Nat) (p : Nat) : Bool := (l[p / 64]?.getD 0).testBit (63 - p % 64)

theorem shift_word (A B sh i : Nat) (hB : B < 18446744073709551616) (hsh : sh < 64) (hi : i < 64) : ((A * 2 ^ sh % 18446744073709551616) ||| (B / 2 ^ (64 - sh))).testBit (63 - i) = if i + sh < 64 then A.testBit (63 - (i + sh)) else B.testBit (63 - (i + sh - 64)) := by
  rw [Nat.testBit_or, show (18446744073709551616 : Nat) = 2 ^ 64 from rfl, Nat.testBit_mod_two_pow, Nat.testBit_mul_two_pow, Nat.testBit_div_two_pow]
  by_cases h : i + sh < 64
  · rw [if_pos h, decide_eq_true (show 63 - i < 64 by omega), decide_eq_true (show sh ≤ 63 - i by omega), show 63 - i - sh = 63 - (i + sh) from by omega]
    have : B.testBit (63 - i + (64 - sh)) = false := Nat.testBit_lt_two_pow (Nat.lt_of_lt_of_le hB (by rw [show (18446744073709551616 : Nat) = 2 ^ 64 from rfl]; exact Nat.pow_le_pow_right (by omega) (by omega)))
    simp [this]
  · rw [if_neg h, decide_eq_false (show ¬ sh ≤ 63 - i by omega), show 63 - i + (64 - sh) = 63 - (i + sh - 64) from by omega]
    simp

theorem shift_pix (l : List Nat) (st k i : Nat) (hi : i < 64) : (if i + st % 64 < 64 then (l[st / 64 + k]?.getD 0).testBit (63 - (i + st % 64)) else (l[st / 64 + k + 1]?.getD 0).testBit (63 - (i + st % 64 - 64))) = linePix l (st + 64 * k + i) := by
  unfold linePix
  by_cases h : i + st % 64 < 64
  · rw [if_pos h, show (st + 64 * k + i) / 64 = st / 64 + k from by omega, show (st + 64 * k + i) % 64 = i + st % 64 from by omega]
  · rw [if_neg h, show (st + 64 * k + i) / 64 = st / 64 + k + 1 from by omega, show (st + 64 * k + i) % 64 = i + st % 64 - 64 from by omega]

/-- What an operation is: on words and on pixels. -/
structure IsOp (f : Nat) (opw : Nat → Nat → Nat) (opb : Bool → Bool → Bool) : Prop where
  run : ∀ (d s : Nat) (w : World), d < 18446744073709551616 → s < 18446744073709551616 → Calls Try.prog f #[.int .u64 d, .int .u64 s] w fun e w' => e = .returned (.int .u64 (opw d s : Nat)) ∧ w' = w
  lt : ∀ d s, d < 18446744073709551616 → s < 18446744073709551616 → opw d s < 18446744073709551616
  bit : ∀ d s i, d < 18446744073709551616 → s < 18446744073709551616 → i < 64 → (opw d s).testBit i = opb (d.testBit i) (s.testBit i)

/-- A line: its words lie in a block of their own. -/
structure LineAt (w : World) (gl : Nat) (l : List Nat) : Prop where
  cell : ∀ j, j < l.length → w.cell? ⟨gl, j, none⟩ = some (.int .u64 (l[j]?.getD 0 : Nat))
  lt : ∀ j : Nat, l[j]?.getD 0 < 18446744073709551616
  blk : gl < w.heap.size
theorem LineAt.kept {S : Nat → Prop} {w w' : World} {gl : Nat} {l : List Nat} (h : LineAt w gl l) (f : Fr S w w') (hs : ¬ S gl) : LineAt w' gl l :=
  ⟨fun j hj => by rw [f.cell h.blk hs]; exact h.cell j hj, h.lt, Nat.lt_of_lt_of_le h.blk f.size⟩


theorem not_nat (X : Nat) (hX : X < 18446744073709551616) : 18446744073709551615 ^^^ X = 18446744073709551615 - X := by
  apply Nat.eq_of_testBit_eq
  intro i
  rw [Nat.testBit_xor, show 18446744073709551615 - X = 2 ^ 64 - (X + 1) from by omega, Nat.testBit_two_pow_sub_succ hX, show (18446744073709551615 : Nat) = 2 ^ 64 - 1 from rfl, Nat.testBit_two_pow_sub_one]
  by_cases hi : i < 64
  · simp [hi]
  · have : X.testBit i = false := Nat.testBit_lt_two_pow (Nat.lt_of_lt_of_le hX (by rw [show (18446744073709551616 : Nat) = 2 ^ 64 from rfl]; exact Nat.pow_le_pow_right (by omega) (by omega)))
    simp [hi, this]
theorem not_num (X : Nat) (hX : X < 18446744073709551616) : bits .xor .u64 IntKind.u64.max (X : Int) = ((18446744073709551615 - X : Nat) : Int) := by
  rw [← not_nat X hX]
  exact u64_xor_nat 18446744073709551615 X (by omega) hX



/-- What 'clip' tells: c places from a on, that come to b and on: those of n places that are inside on both sides. -/
structure Clip (fr : Int) (fe : Nat) (to : Int) (te : Nat) (n : Int) (a b c : Nat) : Prop where
  ha : a + c ≤ fe
  hb : b + c ≤ te
  off : 0 < c → fr - to = (a : Int) - (b : Int)
  iff : ∀ i : Int, 0 ≤ i → i < n → ((0 ≤ fr + i ∧ fr + i < fe ∧ 0 ≤ to + i ∧ to + i < te) ↔ ((a : Int) ≤ fr + i ∧ fr + i < (a : Int) + (c : Int)))
  own : 0 < c → 0 ≤ (a : Int) - fr ∧ (a : Int) - fr + c ≤ n

theorem gap_any' (a b : Int) (g : Nat) (w : World) (hg : g = (b - a).toNat) (ha : -9223372036854775808 ≤ a ∧ a ≤ 9223372036854775807) (hb : -9223372036854775808 ≤ b ∧ b ≤ 9223372036854775807) :
    Calls Try.prog 82 #[.int .i64 a, .int .i64 b] w fun e w' => e = .returned (.int .u64 (g : Nat)) ∧ w' = w := by
  subst hg; exact gap_any a b w ha hb

theorem agg3 {a b c a' b' c' : Int} (h1 : a = a') (h2 : b = b') (h3 : c = c') : #[Value.int .i64 a, Value.int .i64 b, Value.int .i64 c] = #[Value.int .i64 a', Value.int .i64 b', Value.int .i64 c'] := by
  subst h1; subst h2; subst h3; rfl

theorem clipNone {fr to : Int} {fe te N g1 g2 g3 g4 : Nat} (H : g1 = (0 - fr).toNat ∧ g2 = (0 - to).toNat ∧ g3 = ((fe : Int) - fr).toNat ∧ g4 = ((te : Int) - to).toNat) (h : min (min N g3) g4 ≤ max g1 g2) : Clip fr fe to te N 0 0 0 := by
  obtain ⟨h1, h2, h3, h4⟩ := H
  refine ⟨by omega, by omega, fun h => by omega, fun i hi hn => ?_, fun h => by omega⟩
  constructor
  · rintro ⟨a, b, c, d⟩; omega
  · rintro ⟨a, b⟩; omega
theorem clipSome {fr to : Int} {fe te N g1 g2 g3 g4 : Nat} (H : g1 = (0 - fr).toNat ∧ g2 = (0 - to).toNat ∧ g3 = ((fe : Int) - fr).toNat ∧ g4 = ((te : Int) - to).toNat) (h : max g1 g2 < min (min N g3) g4) : Clip fr fe to te N (fr + (max g1 g2 : Nat)).toNat (to + (max g1 g2 : Nat)).toNat (min (min N g3) g4 - max g1 g2) := by
  obtain ⟨h1, h2, h3, h4⟩ := H
  refine ⟨by omega, by omega, fun h => by omega, fun i hi hn => ?_, fun h => by omega⟩
  constructor
  · rintro ⟨a, b, c, d⟩; omega
  · rintro ⟨a, b⟩; omega

set_option maxRecDepth 100000 in
set_option maxHeartbeats 2000000 in
theorem clip_any (fr to n : Int) (fe te : Nat) (w : World) (hfr : -9223372036854775808 ≤ fr ∧ fr ≤ 9223372036854775807) (hto : -9223372036854775808 ≤ to ∧ to ≤ 9223372036854775807) (hn : 0 ≤ n ∧ n ≤ 9223372036854775807) (hfe : fe ≤ 1048576) (hte : te ≤ 1048576) :
    Calls Try.prog 65 #[.int .i64 fr, .int .i64 fe, .int .i64 to, .int .i64 te, .int .i64 n] w fun e w' => ∃ a b c, e = .returned (.agg #[.int .i64 (a : Nat), .int .i64 (b : Nat), .int .i64 (c : Nat)]) ∧ Clip fr fe to te n a b c ∧ Fr (fun _ => False) w w' := by
  obtain ⟨g1, hg1⟩ : ∃ g1 : Nat, g1 = (0 - fr).toNat := ⟨_, rfl⟩
  obtain ⟨g2, hg2⟩ : ∃ g2 : Nat, g2 = (0 - to).toNat := ⟨_, rfl⟩
  obtain ⟨g3, hg3⟩ : ∃ g3 : Nat, g3 = ((fe : Int) - fr).toNat := ⟨_, rfl⟩
  obtain ⟨g4, hg4⟩ : ∃ g4 : Nat, g4 = ((te : Int) - to).toNat := ⟨_, rfl⟩
  obtain ⟨N, hN⟩ : ∃ N : Nat, N = n.toNat := ⟨_, rfl⟩
  have hNn : n = (N : Int) := by omega
  subst hNn
  have G1 : Hid (∀ w, Calls Try.prog 82 #[.int .i64 fr, .int .i64 0] w fun e w' => e = .returned (.int .u64 (g1 : Nat)) ∧ w' = w) := fun w => gap_any' fr 0 g1 w hg1 hfr (by omega)
  have G2 : Hid (∀ w, Calls Try.prog 82 #[.int .i64 to, .int .i64 0] w fun e w' => e = .returned (.int .u64 (g2 : Nat)) ∧ w' = w) := fun w => gap_any' to 0 g2 w hg2 hto (by omega)
  have G3 : Hid (∀ w, Calls Try.prog 82 #[.int .i64 fr, .int .i64 fe] w fun e w' => e = .returned (.int .u64 (g3 : Nat)) ∧ w' = w) := fun w => gap_any' fr fe g3 w hg3 hfr (by omega)
  have G4 : Hid (∀ w, Calls Try.prog 82 #[.int .i64 to, .int .i64 te] w fun e w' => e = .returned (.int .u64 (g4 : Nat)) ∧ w' = w) := fun w => gap_any' to te g4 w hg4 hto (by omega)
  have HH : Hid (g1 = (0 - fr).toNat ∧ g2 = (0 - to).toNat ∧ g3 = ((fe : Int) - fr).toNat ∧ g4 = ((te : Int) - to).toNat) := ⟨hg1, hg2, hg3, hg4⟩
  clear hg1 hg2 hg3 hg4 hN
  rcases Nat.lt_or_ge g1 g2 with m1 | m1 <;> rcases Nat.lt_or_ge g3 N with m2 | m2 <;> rcases Nat.lt_or_ge g4 (if g3 < N then g3 else N) with m3 | m3 <;> rcases Nat.lt_or_ge (max g1 g2) (min (min N g3) g4) with m4 | m4
  all_goals
    first | rw [if_pos (by omega)] at m3 | rw [if_neg (by omega)] at m3
  all_goals
    go_enter Try.func65, Try.ntmps65
    go_wp2_with fail
    refine (G1.out _).mono ?_
    rintro e w1 ⟨rfl, rfl⟩
    go_wp2_with fail
    refine (G2.out _).mono ?_
    rintro e w2 ⟨rfl, rfl⟩
    go_wp2_with fail
    refine (G3.out _).mono ?_
    rintro e w1 ⟨rfl, rfl⟩
    go_wp2_with fail
    refine (G4.out _).mono ?_
    rintro e w2 ⟨rfl, rfl⟩
    go_wp2_with fail
    go_returns
    first
      | exact ⟨0, 0, 0, rfl, clipNone HH.out m4, (Fr.refl _ _).alloc _⟩
      | refine ⟨_, _, _, congrArg Ending.returned (congrArg Value.agg (agg3 ?_ ?_ ?_)), clipSome HH.out m4, (Fr.refl _ _).alloc _⟩
        all_goals
          obtain ⟨q1, q2, q3, q4⟩ := HH.out
          (try unfold wrap64)
          omega


theorem clip_in {fr to n : Int} {fe te a b c : Nat} (h : Clip fr fe to te n a b c) (x : Nat) (hx : x < te) :
    (0 ≤ (x : Int) - to ∧ (x : Int) - to < n ∧ 0 ≤ fr + ((x : Int) - to) ∧ fr + ((x : Int) - to) < fe) ↔ (b ≤ x ∧ x < b + c) := by
  have h1 := h.ha
  have h2 := h.hb
  have h3 := h.off
  have h4 := h.own
  constructor
  · rintro ⟨u1, u2, u3, u4⟩
    have := (h.iff ((x : Int) - to) u1 u2).1 ⟨u3, u4, by omega, by omega⟩
    omega
  · rintro ⟨u1, u2⟩
    omega


set_option maxRecDepth 100000 in
set_option maxHeartbeats 1000000 in
theorem clone_some (a : Addr) (n cap : Nat) (l : List Nat) (w : World) (hl : l.length = n) (hn : n ≤ 1048576) (hc : ∀ (j : Nat) (u : Value), (wordCells l)[j]? = some u → w.cell? (a.add j) = some u) :
    Calls Try.prog 47 #[.slice (some a) n cap] w fun e w' => ∃ rv, e = .returned rv ∧ w'.ownsRow w.heap.size 62 1 rv n (wordCells l) ∧ Fr (fun _ => False) w w' ∧ rv ≠ .slice none 0 0 := by
  have q35 : ∀ (w : World) (a : Option Addr) (n c n' c' : Nat), (binOp .eql 23 (.slice a n c) (.slice none n' c')).run Try.prog w = .ok (.bool a.isNone) w := fun w a n c n' c' => Lib.run_eql_slice_nil w 23 62 a n c n' c' Try.underlying23
  obtain ⟨i0, hi, hz0, hz1, hz2⟩ := info_parts Try.info117
  have HC : Hid (∀ (j : Nat) (u : Value), (wordCells l)[j]? = some u → w.cell? (a.add j) = some u) := hc
  clear hc
  have hown : (w.alloc (.cells #[] 62)).ownsRow w.heap.size 62 1 (.slice (some ⟨w.heap.size, 0, none⟩) 0 0) 0 [] := World.ownsRow_made w #[] 0 (Nat.le_refl _) (by decide) rfl
  go_enter Try.func47, Try.ntmps47
  go_wp2_with (first | (at_builtin; refine wpList_append_own _ rfl _ _ 23 rfl w.heap.size 62 i0 (.int .u64 0) 1 8 Try.underlying23 hi hz0 hz1 hz2 rfl (by decide) _ _ _ rfl hown a n cap (wordCells l) rfl ?c0 ?c1 ?c2 ?c3 ?c4 ?c5 ?_))
  case c0 => rw [length_wordCells]; omega
  case c1 => exact fun j u hu => cell_later ((Below.refl _ _).alloc (Nat.le_refl _) _) (HC.out j u hu)
  case c2 => exact wordCells_one l
  case c3 => unfold maxLen; omega
  case c4 => omega
  case c5 => simp
  intro v' w1 hown' hgrow hnn
  have HO : Hid (w1.ownsRow w.heap.size 62 1 v' n (wordCells l)) := hown'
  have HB : Hid (Below w.heap.size w w1) := ((Below.refl _ _).alloc (Nat.le_refl _) _).grown hgrow (by simp) (fun k hk => by simp [Value.ownBlock] at hk; omega)
  have HV : Hid (v' ≠ .slice none 0 0) := hnn
  clear hown' hgrow hnn hown
  go_wp2
  go_ret
  exact ⟨v', rfl, HO.out, Fr.of_below HB.out _, HV.out⟩

set_option maxRecDepth 100000 in
set_option maxHeartbeats 1000000 in
theorem plain_any (b g cap W H : Nat) (P : Nat → Nat → Bool) (w : World) (h : MapAt w b g cap W H P) :
    Calls Try.prog 28 #[.pointer (some ⟨b, 0, none⟩)] w fun e w' => ∃ g2 cap2, e = .returned (.agg #[.int .i64 W, .int .i64 H, .slice (some ⟨g2, 0, none⟩) (H * stride W) cap2]) ∧ w'.ownsRow 0 62 1 (.slice (some ⟨g2, 0, none⟩) (H * stride W) cap2) (H * stride W) (wordCells (render W H P)) ∧ Fr (fun _ => False) w w' ∧ w.heap.size ≤ g2 := by
  have HA : Hid (MapAt w b g cap W H P) := h
  have hwl := h.words_le
  have hbl := h.lt
  have HCC : Hid (∀ w', Fr (fun _ => False) w w' → ∀ (j : Nat) (u : Value), (wordCells (render W H P))[j]? = some u → w'.cell? ((⟨g, 0, none⟩ : Addr).add j) = some u) := fun w' hf j u hu => by
    have h1 := (h.kept hf (fun x => x) (fun x => x)).own
    have hj : j < H * stride W := by
      rcases Nat.lt_or_ge j (H * stride W) with h2 | h2
      · exact h2
      · rw [List.getElem?_eq_none (by rw [length_wordCells, length_render]; exact h2)] at hu; cases hu
    rw [show (⟨g, 0, none⟩ : Addr).add j = ⟨g, j, none⟩ from by unfold Addr.add; split <;> simp_all, h1.cellAt j (by omega)]
    exact hu
  have HKX : Hid (∀ w', Fr (fun k => k = w.heap.size) (w.alloc (.cells #[.int .i64 0, .int .i64 0, .slice none 0 0] 25)) w' → w'.cell? ⟨b, 0, none⟩ = some (.int .i64 W) ∧ w'.cell? ⟨b, 1, none⟩ = some (.int .i64 H) ∧ w'.cell? ⟨b, 3, none⟩ = some (.slice (some ⟨g, 0, none⟩) (H * stride W) cap)) := fun w' hf => by
    have hf2 : Fr (fun k => k = w.heap.size) w w' := ((Fr.refl _ w).alloc _).trans hf (fun _ _ hh => hh)
    obtain ⟨c0, c1, c2, c3, cf⟩ := cell_of_four h.blk
    refine ⟨?_, ?_, ?_⟩ <;> rw [hf2.cell hbl (by omega)] <;> assumption
  clear h
  have hln : (render W H P).length = H * stride W := length_render W H P
  generalize render W H P = l at *
  generalize H * stride W = N at *
  go_enter Try.func28, Try.ntmps28
  go_wp2_with fail
  go_region_held3 (fun w' => w'.cell? ⟨b, 0, none⟩ = some (.int .i64 W) ∧ w'.cell? ⟨b, 1, none⟩ = some (.int .i64 H) ∧ w'.cell? ⟨b, 3, none⟩ = some (.slice (some ⟨g, 0, none⟩) N cap)) (first | exact HKX.out _ ((Fr.refl _ _).drew) | exact HKX.out _ (((Fr.refl _ _).drew).trans hf4 (fun _ _ hh => hh.elim)) | exact HKX.out _ ((((((Fr.refl (fun k => k = w.heap.size) _).drew).trans hf4 (fun _ _ hh => hh.elim)).setCell (p := ⟨w.heap.size, 0, none⟩) (fun _ => rfl) _).setCell (p := ⟨w.heap.size, 1, none⟩) (fun _ => rfl) _).setCell (p := ⟨w.heap.size, 2, none⟩) (fun _ => rfl) _)) (first | (go_at_call 47; refine (clone_some _ _ _ l _ hln hwl ?_).mono ?_; (exact HCC.out _ (((Fr.refl _ _).alloc _).drew)); rintro e w4 ⟨rv, rfl, ho, hf4, hnn⟩; have hbk : w4.heap[w.heap.size]? = some (.cells #[.int .i64 0, .int .i64 0, .slice none 0 0] 25 (0, 0)) := (hf4.block _ (by simp) (fun hh => hh)).trans (heap_alloc_new w _); obtain ⟨z0, z1, z2, zf⟩ := cell_of_three hbk; obtain ⟨g2, cap2, hrv, hg2⟩ := row_out ho hnn; subst hrv))
  have hlt : w.heap.size + 1 ≤ g2 := by simpa using hg2
  have hfz : Fr (fun k => k = w.heap.size) w4 (((w4.setCell ⟨w.heap.size, 0, none⟩ (.int .i64 W)).setCell ⟨w.heap.size, 1, none⟩ (.int .i64 H)).setCell ⟨w.heap.size, 2, none⟩ (.slice (some ⟨g2, 0, none⟩) N cap2)) := (((Fr.refl (fun k => k = w.heap.size) w4).setCell (p := ⟨w.heap.size, 0, none⟩) (fun _ => rfl) _).setCell (p := ⟨w.heap.size, 1, none⟩) (fun _ => rfl) _).setCell (p := ⟨w.heap.size, 2, none⟩) (fun _ => rfl) _
  have HO : Hid ((((w4.setCell ⟨w.heap.size, 0, none⟩ (.int .i64 W)).setCell ⟨w.heap.size, 1, none⟩ (.int .i64 H)).setCell ⟨w.heap.size, 2, none⟩ (.slice (some ⟨g2, 0, none⟩) N cap2)).ownsRow 0 62 1 (.slice (some ⟨g2, 0, none⟩) N cap2) N (wordCells l)) := row_kept (ownsRow_base ho (fun _ _ => Nat.zero_le _)) hfz (fun k hk => by simp [Value.ownBlock] at hk; omega)
  have HFZ : Hid (Fr (fun _ => False) w (((w4.setCell ⟨w.heap.size, 0, none⟩ (.int .i64 W)).setCell ⟨w.heap.size, 1, none⟩ (.int .i64 H)).setCell ⟨w.heap.size, 2, none⟩ (.slice (some ⟨g2, 0, none⟩) N cap2))) := ((((Fr.refl (fun _ => False) w).alloc _).drew).trans hf4 (fun _ _ hh => hh)).trans hfz (fun i hi hh => by omega)
  have hlt2 : w.heap.size ≤ g2 := by omega
  have hb5 : (((w4.setCell ⟨w.heap.size, 0, none⟩ (.int .i64 W)).setCell ⟨w.heap.size, 1, none⟩ (.int .i64 H)).setCell ⟨w.heap.size, 2, none⟩ (.slice (some ⟨g2, 0, none⟩) N cap2)).heap[w.heap.size]? = some (.cells #[.int .i64 W, .int .i64 H, .slice (some ⟨g2, 0, none⟩) N cap2] 25 (0, 0)) := by
    simp [World.setCell, Array.getElem?_modify, hbk]
  clear hfz ho hf4 hg2 hbk hlt z0 z1 z2 zf
  generalize (((w4.setCell ⟨w.heap.size, 0, none⟩ (.int .i64 W)).setCell ⟨w.heap.size, 1, none⟩ (.int .i64 H)).setCell ⟨w.heap.size, 2, none⟩ (.slice (some ⟨g2, 0, none⟩) N cap2)) = w5 at HO HFZ hb5 ⊢
  obtain ⟨y0, y1, y2, yf⟩ := cell_of_three hb5
  clear hb5 yf
  go_wp2_with fail
  (try simp only [Exit.inBlock, Exit.then])
  refine bodyPost_ret (by simp [results, Try.results28, go_sem, y0, y1, y2]; rfl) rfl ?_
  exact ⟨g2, cap2, rfl, HO.out, HFZ.out, hlt2⟩

end Go.Proofs.Ytgpciopoionmeaa
