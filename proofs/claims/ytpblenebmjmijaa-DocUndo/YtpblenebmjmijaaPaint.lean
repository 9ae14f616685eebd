/- A span of a row is written word by word; 'paint' and 'Set'. -/
import Derived.Test.YtpblenebmjmijaaMake
namespace Go.Proofs.Ytpblenebmjmijaa
open Go.RowKit

theorem Fr.cell {S : Nat → Prop} {w w' : World} (f : Fr S w w') {b o : Nat} (hb : b < w.heap.size) (hs : ¬ S b) : w'.cell? ⟨b, o, none⟩ = w.cell? ⟨b, o, none⟩ := by
  unfold World.cell?; rw [f.block b hb hs]

/-- Pixels of row y from to up to to + n, as far as word k of them, are N; all others P. -/
def laid (P : Nat → Nat → Bool) (y to n : Nat) (N : Nat → Bool) (k : Nat) : Nat → Nat → Bool :=
  fun a b => if b = y ∧ to ≤ a ∧ a < to + n ∧ a / 64 < fstW to n + k then N a else P a b
def laidAll (P : Nat → Nat → Bool) (y to n : Nat) (N : Nat → Bool) : Nat → Nat → Bool :=
  fun a b => if b = y ∧ to ≤ a ∧ a < to + n then N a else P a b

theorem laid_zero (P : Nat → Nat → Bool) (y to n : Nat) (N : Nat → Bool) : laid P y to n N 0 = P := by
  funext a b
  unfold laid fstW
  rw [if_neg]
  rintro ⟨_, h1, h2, h3⟩
  split at h3 <;> omega
theorem laid_all (P : Nat → Nat → Bool) (y to n : Nat) (N : Nat → Bool) : laid P y to n N (cntW to n) = laidAll P y to n N := by
  funext a b
  unfold laid laidAll
  by_cases h : b = y ∧ to ≤ a ∧ a < to + n
  · rw [if_pos h, if_pos]
    refine ⟨h.1, h.2.1, h.2.2, ?_⟩
    unfold fstW cntW
    split <;> omega
  · rw [if_neg h, if_neg]
    rintro ⟨h1, h2, h3, _⟩
    exact h ⟨h1, h2, h3⟩
theorem cnt_in {to n k : Nat} (hk : k < cntW to n) : 0 < n ∧ to < 64 * (fstW to n + k) + 64 ∧ 64 * (fstW to n + k) < to + n := by
  unfold cntW at hk
  unfold fstW
  by_cases h : n = 0
  · simp [h] at hk
  · simp only [h, if_false] at hk ⊢
    omega
theorem cnt_stride {W to n k : Nat} (hk : k < cntW to n) (h : to + n ≤ W) : fstW to n + k < stride W := by
  have := cnt_in hk
  unfold stride
  omega
theorem laid_wd (W : Nat) (P : Nat → Nat → Bool) (y to n : Nat) (N : Nat → Bool) (k : Nat) : wd W (laid P y to n N k) y (fstW to n + k) = wd W P y (fstW to n + k) := by
  apply wordOf_congr
  intro i hi
  congr 1
  unfold laid
  rw [if_neg]
  rintro ⟨_, _, _, h⟩
  omega

/-- The next word of the span is written. -/
theorem MapAt.step {w : World} {b g cap W H : Nat} {P : Nat → Nat → Bool} {y to n : Nat} {N : Nat → Bool} {k x : Nat} (h : MapAt w b g cap W H (laid P y to n N k)) (hk : k < cntW to n) (ht : to + n ≤ W) (hy : y < H) (hx : x < 18446744073709551616)
    (hb : ∀ i, i < 64 → x.testBit (63 - i) = if to ≤ 64 * (fstW to n + k) + i ∧ 64 * (fstW to n + k) + i < to + n then N (64 * (fstW to n + k) + i) else (wd W P y (fstW to n + k)).testBit (63 - i)) :
    MapAt (w.setCell ⟨g, y * stride W + (fstW to n + k), none⟩ (.int .u64 (x : Int))) b g cap W H (laid P y to n N (k + 1)) := by
  have hst := cnt_stride hk ht
  refine h.put hy hst hx ?_ ?_
  · intro i hi
    rw [hb i hi]
    by_cases hin : to ≤ 64 * (fstW to n + k) + i ∧ 64 * (fstW to n + k) + i < to + n
    · rw [if_pos hin]
      unfold laid
      rw [if_pos ⟨rfl, hin.1, hin.2, by omega⟩, decide_eq_true (by omega)]
      rfl
    · rw [if_neg hin]
      unfold wd
      rw [bit_wordOf _ _ hi]
      congr 1
      unfold laid
      rw [if_neg]
      rintro ⟨_, h1, h2, _⟩
      exact hin ⟨h1, h2⟩
  · intro a c _ _ hn
    unfold laid
    by_cases hin : c = y ∧ to ≤ a ∧ a < to + n ∧ a / 64 < fstW to n + k
    · rw [if_pos hin, if_pos ⟨hin.1, hin.2.1, hin.2.2.1, by omega⟩]
    · rw [if_neg hin, if_neg]
      rintro ⟨h1, h2, h3, h4⟩
      apply hin
      refine ⟨h1, h2, h3, ?_⟩
      have : ¬ a / 64 = fstW to n + k := fun e => hn ⟨h1, e⟩
      omega

/-- A word that is written over twice. -/
theorem setCell_twice (w : World) (p : Addr) (u v : Value) : (w.setCell p u).setCell p v = w.setCell p v := by
  unfold World.setCell
  simp only [World.mk.injEq, and_true]
  apply Array.ext_getElem?
  intro i
  simp only [Array.getElem?_modify]
  split
  · cases w.heap[i]? with
    | none => rfl
    | some o => cases o <;> by_cases hp : p.spot.isSome = true <;> simp [hp]
  · rfl

theorem not_mask (x m : Nat) (hm : m < 18446744073709551616) (i : Nat) (hi : i < 64) : (x &&& 18446744073709551615 - m).testBit i = (x.testBit i && !m.testBit i) := by
  rw [Nat.testBit_and, show 18446744073709551615 - m = 2 ^ 64 - (m + 1) from by omega, Nat.testBit_two_pow_sub_succ hm]
  simp [hi]

def spanMask (to n j : Nat) : Nat := wordOf fun i => decide (to ≤ 64 * j + i ∧ 64 * j + i < to + n)
theorem spanMask_lt (to n j : Nat) : spanMask to n j < 18446744073709551616 := wordOf_lt _
theorem spanMask_bit (to n j i : Nat) (hi : i < 64) : (spanMask to n j).testBit (63 - i) = decide (to ≤ 64 * j + i ∧ 64 * j + i < to + n) := bit_wordOf _ _ hi

theorem maskOf_any' (fr x : Int) (to n k : Nat) (w : World) (hx : x = k) (h : to ≤ 4194304) (hn : n ≤ 4194304) (h1 : to < 64 * k + 64) (h2 : 64 * k < to + n) :
    Calls Try.prog 56 #[.agg #[.int .i64 fr, .int .i64 to, .int .i64 n], .int .i64 x] w fun e w' => e = .returned (.int .u64 (spanMask to n k : Nat)) ∧ Fr (fun _ => False) w w' := by
  subst hx; exact maskOf_any fr to n k w h hn h1 h2

set_option maxRecDepth 100000 in
set_option maxHeartbeats 1000000 in
theorem paint_any (b g cap W H : Nat) (P : Nat → Nat → Bool) (y to n bit : Nat) (fr : Int) (w : World) (h : MapAt w b g cap W H P) (hy : y < H) (ht : to + n ≤ W) (hbit : bit ≤ 1) :
    Calls Try.prog 43 #[.slice (some ⟨g, y * stride W, none⟩) (stride W) (stride W), .agg #[.int .i64 fr, .int .i64 to, .int .i64 n], .int .i64 bit] w fun e w' => e = .returned (.tuple #[]) ∧ MapAt w' b g cap W H (laidAll P y to n fun _ => decide (bit = 1)) ∧ Fr (fun k => k = g) w w' := by
  have HA : Hid (MapAt w b g cap W H P) := h
  obtain ⟨f1, f2, f3⟩ := size_facts h.wpos h.hpos h.area
  have hgl := h.glt
  clear h
  go_enter Try.func43, Try.ntmps43
  go_wp2_with fail
  refine (wordsOf_any fr to n _ (by omega) (by omega)).mono ?_
  rintro e w1 ⟨rfl, hf1⟩
  have HF1 : Hid (Fr (fun _ => False) (w.alloc (.cells #[.int .i64 fr, .int .i64 to, .int .i64 n] 88)) w1) := hf1
  clear hf1
  go_wp2_with fail
  go_loopw [16] (fun i wr => ∃ k : Nat, k ≤ cntW to n ∧ i = .int .i64 k ∧ MapAt wr b g cap W H (laid P y to n (fun _ => decide (bit = 1)) k) ∧ Fr (fun k => k = g) (w.alloc (.cells #[.int .i64 fr, .int .i64 to, .int .i64 n] 88)) wr) (fun i _ => cntW to n - (intOf i).toNat)
  case atStart => exact ⟨0, Nat.zero_le _, rfl, by rw [laid_zero]; exact HA.out.kept (((Fr.refl (fun _ => False) _).alloc _).trans HF1.out (fun _ _ hh => hh)) (fun hh => hh) (fun hh => hh), HF1.out.mono (fun _ _ hh => hh.elim)⟩
  case round =>
    obtain ⟨k, hk, rfl, hat, hfr⟩ := hrel
    have HM : Hid (MapAt wr b g cap W H (laid P y to n (fun _ => decide (bit = 1)) k)) := hat
    have HF : Hid (Fr (fun k => k = g) (w.alloc (.cells #[.int .i64 fr, .int .i64 to, .int .i64 n] 88)) wr) := hfr
    have hB : wr.heap[w.heap.size]? = some (.cells #[.int .i64 fr, .int .i64 to, .int .i64 n] 88 (0, 0)) := by
      rw [hfr.block w.heap.size (by simp) (by omega)]; exact heap_alloc_new _ _
    have c0 : wr.cell? ⟨w.heap.size, 0, none⟩ = some (.int .i64 fr) := by simp [World.cell?, hB]
    have c1 : wr.cell? ⟨w.heap.size, 1, none⟩ = some (.int .i64 to) := by simp [World.cell?, hB]
    have c2 : wr.cell? ⟨w.heap.size, 2, none⟩ = some (.int .i64 n) := by simp [World.cell?, hB]
    clear hat hfr hB
    by_cases hlt : k < cntW to n
    · have hin := cnt_in hlt
      have hst := cnt_stride hlt ht
      have hwl : wd W P y (fstW to n + k) < 18446744073709551616 := wd_lt _ _ _ _
      have hsb : stride W ≤ 1048576 := by unfold stride; omega
      have HS : Hid (∀ (w2 : World) (x : Nat), MapAt w2 b g cap W H (laid P y to n (fun _ => decide (bit = 1)) k) → x < 18446744073709551616 → (∀ i, i < 64 → x.testBit (63 - i) = if to ≤ 64 * (fstW to n + k) + i ∧ 64 * (fstW to n + k) + i < to + n then decide (bit = 1) else (wd W P y (fstW to n + k)).testBit (63 - i)) → MapAt (w2.setCell ⟨g, y * stride W + (fstW to n + k), none⟩ (.int .u64 (x : Int))) b g cap W H (laid P y to n (fun _ => decide (bit = 1)) (k + 1))) := fun w2 x a b c => a.step hlt ht hy b c
      go_wp2_with fail
      refine (maskOf_any' fr _ to n (fstW to n + k) _ (by push_cast; rfl) (by omega) (by omega) hin.2.1 hin.2.2).mono ?_
      rintro e w2 ⟨rfl, hf2⟩
      have HM2 : Hid (MapAt w2 b g cap W H (laid P y to n (fun _ => decide (bit = 1)) k)) := HM.out.kept hf2 (fun hh => hh) (fun hh => hh)
      have HF2 : Hid (Fr (fun k => k = g) (w.alloc (.cells #[.int .i64 fr, .int .i64 to, .int .i64 n] 88)) w2) := HF.out.trans hf2 (fun _ _ hh => hh.elim)
      have hc := HM2.out.word hy hst
      rw [laid_wd] at hc
      have hfz := HM2.out.own.frozenAt (y * stride W + (fstW to n + k))
      have hml := spanMask_lt to n (fstW to n + k)
      have HB : Hid (∀ i, i < 64 → (spanMask to n (fstW to n + k)).testBit (63 - i) = decide (to ≤ 64 * (fstW to n + k) + i ∧ 64 * (fstW to n + k) + i < to + n)) := fun i hi => spanMask_bit _ _ _ _ hi
      clear HM HF hf2 c0 c1 c2 hin
      generalize spanMask to n (fstW to n + k) = m at *
      generalize wd W P y (fstW to n + k) = D at *
      obtain ⟨X1, hX1⟩ : ∃ X1, X1 = D &&& 18446744073709551615 - m := ⟨_, rfl⟩
      have k1 : bits .andNot .u64 (D : Int) (m : Int) = (X1 : Int) := by rw [hX1]; exact u64_andNot_nat D m hwl hml
      have hX1l : X1 < 18446744073709551616 := by rw [hX1]; exact Nat.lt_of_le_of_lt Nat.and_le_left hwl
      have k2 : bits .or .u64 (X1 : Int) (m : Int) = ((X1 ||| m : Nat) : Int) := u64_or_nat X1 m hX1l hml
      have HX : Hid (∀ i, i < 64 → X1.testBit (63 - i) = (D.testBit (63 - i) && !m.testBit (63 - i))) := fun i hi => by rw [hX1]; exact not_mask D m hml _ (by omega)
      have HX2 : Hid ((X1 ||| m) < 18446744073709551616) := Nat.or_lt_two_pow (n := 64) hX1l hml
      have HX1 : Hid (X1 < 18446744073709551616) := hX1l
      clear hX1 hml hwl hX1l
      rcases (show bit = 0 ∨ bit = 1 from by omega) with hb | hb
      · have hbe : ((bit : Int) == 1) = false := by simp [hb]
        have HBT : Hid (bit = 0) := hb
        clear hb
        go_wp2_with fail
        go_roundw
        case rel =>
          refine ⟨k + 1, by omega, congrArg (Value.int .i64) (by omega), HS.out w2 X1 HM2.out HX1.out ?_, HF2.out.setCell (fun _ => rfl) _⟩
          intro i hi
          rw [HX.out i hi, HB.out i hi]
          split <;> simp [HBT.out, *]
        case measure => simp [intOf]; omega
      · have hbe : ((bit : Int) == 1) = true := by simp [hb]
        have HBT : Hid (bit = 1) := hb
        clear hb
        go_wp2_with fail
        go_roundw
        case rel =>
          refine ⟨k + 1, by omega, congrArg (Value.int .i64) (by omega), ?_, (HF2.out.setCell (fun _ => rfl) _).setCell (fun _ => rfl) _⟩
          rw [setCell_twice]
          refine HS.out w2 (X1 ||| m) HM2.out HX2.out ?_
          intro i hi
          rw [Nat.testBit_or, HX.out i hi, HB.out i hi]
          split <;> simp [HBT.out, *]
        case measure => simp [intOf]; omega
    · have hkn : k = cntW to n := by omega
      subst hkn
      go_wp2_with fail
      go_end0
      refine ⟨rfl, by rw [← laid_all]; exact HM.out, ?_⟩
      exact ((Fr.refl (fun k => k = g) w).alloc _).trans HF.out (fun _ _ hh => hh)

set_option maxRecDepth 100000 in
set_option maxHeartbeats 1000000 in
theorem set_in (b g cap W H : Nat) (P : Nat → Nat → Bool) (x y bit : Nat) (w : World) (h : MapAt w b g cap W H P) (hx : x < W) (hy : y < H) (hbit : bit ≤ 1) :
    Calls Try.prog 25 #[.pointer (some ⟨b, 0, none⟩), .int .i64 x, .int .i64 y, .int .i64 bit] w fun e w' => e = .returned (.int .i64 0) ∧ MapAt w' b g cap W H (laidAll P y x 1 fun _ => decide (bit = 1)) ∧ Fr (fun k => k = g) w w' := by
  have HA : Hid (MapAt w b g cap W H P) := h
  clear h
  go_enter Try.func25, Try.ntmps25
  go_wp2_with fail
  refine (inside_any b g cap W H P x y _ HA.out).mono ?_
  rintro e w1 ⟨rfl, rfl⟩
  rw [decide_eq_true (by omega)]
  go_wp2_with fail
  refine (isBit_any bit _).mono ?_
  rintro e w1 ⟨rfl, rfl⟩
  rw [decide_eq_true (by omega)]
  go_wp2_with fail
  refine (row_any b g cap W H P y _ HA.out hy).mono ?_
  rintro e w2 ⟨rfl, q, rfl⟩
  go_wp2_with fail
  refine (paint_any b g cap W H P y x 1 bit 0 _ (HA.out.drewN q) hy (by omega) hbit).mono ?_
  rintro e w3 ⟨rfl, hm, hf⟩
  have HM : Hid (MapAt w3 b g cap W H (laidAll P y x 1 fun _ => decide (bit = 1))) := hm
  have HF : Hid (Fr (fun k => k = g) w1 w3) := ((Fr.refl _ w1).drewN q).trans hf (fun _ _ hh => hh)
  clear hm hf
  go_wp2_with fail
  go_ret
  exact ⟨rfl, HM.out, HF.out⟩

set_option maxRecDepth 100000 in
set_option maxHeartbeats 1000000 in
theorem set_out (b g cap W H : Nat) (P : Nat → Nat → Bool) (x y bit : Int) (w : World) (h : MapAt w b g cap W H P) (hx : ¬ (0 ≤ x ∧ x < W ∧ 0 ≤ y ∧ y < H)) :
    Calls Try.prog 25 #[.pointer (some ⟨b, 0, none⟩), .int .i64 x, .int .i64 y, .int .i64 bit] w fun e w' => e = .returned (.int .i64 22) ∧ w' = w := by
  go_enter Try.func25, Try.ntmps25
  go_wp2_with fail
  refine (inside_any b g cap W H P x y _ h).mono ?_
  rintro e w1 ⟨rfl, rfl⟩
  rw [decide_eq_false hx]
  go_wp2_with fail
  go_ret
  exact ⟨rfl, rfl⟩

end Go.Proofs.Ytpblenebmjmijaa
