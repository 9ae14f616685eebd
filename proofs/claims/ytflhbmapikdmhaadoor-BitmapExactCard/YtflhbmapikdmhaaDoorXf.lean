/- The reference's 'Fill'. -/
import Derived.Test.YtflhbmapikdmhaaDoorXm
import Derived.Test.YtflhbmapikdmhaaDoorFill
import Derived.Deep.RegionHeld3
namespace Go.Proofs.YtflhbmapikdmhaaDoor
set_option maxRecDepth 100000
open Go.RowKit

theorem fill_setG {x y ww hh A1 C1 A2 C2 J : Int} {W H : Nat} (c : Bool) (P : Nat → Nat → Bool) (s1 : SpanOK x ww W A1 C1) (s2 : SpanOK y hh H A2 C2) (h2 : J ≤ C2 ∨ J = A2) (h3 : C2 ≤ J) :
    ∀ a e, a < W → e < H → setG (fun _ _ => c) x y A1 C1 A2 J A1 P a e = fillPix P x y ww hh c a e := by
  intro a e ha he
  have i1 := s1.iff ((a : Int) - x)
  have i2 := s2.iff ((e : Int) - y)
  have l1 := s1.lo
  have l2 := s2.lo
  have u1 := s1.hi
  have u2 := s2.hi
  unfold setG fillPix
  by_cases q : (0 ≤ (a : Int) - x ∧ (a : Int) - x < ww) ∧ (0 ≤ (e : Int) - y ∧ (e : Int) - y < hh)
  · rw [if_pos q, if_pos]
    have j1 := (i1 q.1.1 q.1.2).1 (by omega)
    have j2 := (i2 q.2.1 q.2.2).1 (by omega)
    omega
  · rw [if_neg q, if_neg (by omega)]

set_option linter.unusedSimpArgs false in
theorem rfill_rect (W H : Nat) (v : Value) (x y ww hh bit : Int) (w : World) (hv : ∃ ao n cap, v = .slice ao n cap) (h : ww < 0 ∨ hh < 0) :
    Calls Tryd.prog 9 #[.agg #[.int .i64 (W : Int), .int .i64 (H : Int), v], .int .i64 x, .int .i64 y, .int .i64 ww, .int .i64 hh, .int .i64 bit] w fun e w' => e = .returned (.int .i64 24) ∧ Fr (fun _ => False) w w' := by
  obtain ⟨ao, n, cap, rfl⟩ := hv
  have HF1 : Hid (Fr (fun _ => False) w (w.alloc (.cells #[.int .i64 (W : Int), .int .i64 (H : Int), .slice ao n cap] 39))) := (Fr.refl _ w).alloc _
  by_cases h1 : ww < 0
  · have d1 : decide (ww < 0) = true := decide_eq_true h1
    go_enter Tryd.func9, Tryd.ntmps9
    go_wp2_with fail
    go_ret
    exact ⟨rfl, HF1.out⟩
  · have d1 : decide (ww < 0) = false := decide_eq_false h1
    have d2 : decide (hh < 0) = true := decide_eq_true (by omega)
    go_enter Tryd.func9, Tryd.ntmps9
    go_wp2_with fail
    go_ret
    exact ⟨rfl, HF1.out⟩

set_option linter.unusedSimpArgs false in
theorem rfill_bit (W H : Nat) (v : Value) (x y ww hh bit : Int) (w : World) (hv : ∃ ao n cap, v = .slice ao n cap) (h1 : 0 ≤ ww) (h2 : 0 ≤ hh) (h3 : ¬ (bit = 0 ∨ bit = 1)) :
    Calls Tryd.prog 9 #[.agg #[.int .i64 (W : Int), .int .i64 (H : Int), v], .int .i64 x, .int .i64 y, .int .i64 ww, .int .i64 hh, .int .i64 bit] w fun e w' => e = .returned (.int .i64 23) ∧ Fr (fun _ => False) w w' := by
  obtain ⟨ao, n, cap, rfl⟩ := hv
  have HF1 : Hid (Fr (fun _ => False) w (w.alloc (.cells #[.int .i64 (W : Int), .int .i64 (H : Int), .slice ao n cap] 39))) := (Fr.refl _ w).alloc _
  have d1 : decide (ww < 0) = false := decide_eq_false (by omega)
  have d2 : decide (hh < 0) = false := decide_eq_false (by omega)
  have b0 : (bit != 0) = true := by simp; omega
  have b1 : (bit != 1) = true := by simp; omega
  clear h1 h2 h3
  go_enter Tryd.func9, Tryd.ntmps9
  go_wp2_with fail
  go_ret
  exact ⟨rfl, HF1.out⟩

set_option linter.unusedSimpArgs false in
set_option maxHeartbeats 40000000 in
theorem rfill_ok (W H g cap : Nat) (P : Nat → Nat → Bool) (x y ww hh : Int) (bit : Nat) (c : Bool) (w : World) (hr : RowAt w g cap W H P) (h1 : 1 ≤ W) (h2 : 1 ≤ H) (h3 : W * H ≤ 1048576) (hbc : bit = c.toNat)
    (b1 : -9223372036854775808 ≤ x ∧ x ≤ 9223372036854775807) (b2 : -9223372036854775808 ≤ y ∧ y ≤ 9223372036854775807) (b3 : 0 ≤ ww ∧ ww ≤ 9223372036854775807) (b4 : 0 ≤ hh ∧ hh ≤ 9223372036854775807) :
    Calls Tryd.prog 9 #[.agg #[.int .i64 (W : Int), .int .i64 (H : Int), .slice (some ⟨g, 0, none⟩) (H * stride W) cap], .int .i64 x, .int .i64 y, .int .i64 ww, .int .i64 hh, .int .i64 bit] w fun e w' => e = .returned (.int .i64 0) ∧ RowAt w' g cap W H (fillPix P x y ww hh c) ∧ Fr (fun k => k = g) w w' := by
  obtain ⟨f1, f2, f3⟩ := size_facts h1 h2 h3
  have HR : Hid (RowAt w g cap W H P) := hr
  have HB : Hid (1 ≤ W ∧ 1 ≤ H ∧ W * H ≤ 1048576) := ⟨h1, h2, h3⟩
  have HBC : Hid (bit = c.toNat) := hbc
  have HGL : Hid (g < w.heap.size) := hr.lt
  have HS1 : Hid (∀ w' : World, Calls Tryd.prog 37 #[.int .i64 x, .int .i64 ww, .int .i64 (W : Int)] w' fun e w'' => (∃ a c : Int, e = .returned (.tuple #[.int .i64 a, .int .i64 c]) ∧ SpanOK x ww W a c) ∧ w'' = w') := fun w' => span_any x ww W w' b1 b3 f1
  have HS2 : Hid (∀ w' : World, Calls Tryd.prog 37 #[.int .i64 y, .int .i64 hh, .int .i64 (H : Int)] w' fun e w'' => (∃ a c : Int, e = .returned (.tuple #[.int .i64 a, .int .i64 c]) ∧ SpanOK y hh H a c) ∧ w'' = w') := fun w' => span_any y hh H w' b2 b4 f2
  have HBB : Hid (ww ≤ 9223372036854775807 ∧ hh ≤ 9223372036854775807) := ⟨b3.2, b4.2⟩
  have d1 : decide (ww < 0) = false := decide_eq_false (by omega)
  have d2 : decide (hh < 0) = false := decide_eq_false (by omega)
  have hbb : bit = 0 ∨ bit = 1 := by rw [hbc]; cases c <;> simp
  obtain ⟨N, HN⟩ : ∃ N, Hid (N = H * stride W) := ⟨_, rfl⟩
  rw [← HN.out]
  have HA : Hid (Fr (fun _ => False) w (w.alloc (.cells #[.int .i64 (W : Int), .int .i64 (H : Int), .slice (some ⟨g, 0, none⟩) N cap] 39))) := (Fr.refl _ _).alloc _
  have HC : Hid (∀ w', Fr (fun k => k = g) (w.alloc (.cells #[.int .i64 (W : Int), .int .i64 (H : Int), .slice (some ⟨g, 0, none⟩) N cap] 39)) w' → w'.cell? ⟨w.heap.size, 0, none⟩ = some (.int .i64 W) ∧ w'.cell? ⟨w.heap.size, 1, none⟩ = some (.int .i64 H) ∧ w'.cell? ⟨w.heap.size, 2, none⟩ = some (.slice (some ⟨g, 0, none⟩) N cap)) := fun w' hf => by
    have hgl := HGL.out
    have e1 : (w.alloc (.cells #[.int .i64 (W : Int), .int .i64 (H : Int), .slice (some ⟨g, 0, none⟩) N cap] 39)).heap[w.heap.size]? = some (.cells #[.int .i64 (W : Int), .int .i64 (H : Int), .slice (some ⟨g, 0, none⟩) N cap] 39 (0, 0)) := heap_alloc_new _ _
    obtain ⟨a0, a1, a2, _⟩ := cell_of_three ((hf.block _ (lt_of_block e1) (by omega)).trans e1)
    exact ⟨a0, a1, a2⟩
  clear hr h1 h2 h3 f3 b1 b2 b3 b4 hbc
  have hb0 : ((bit : Int) != 0 && (bit : Int) != 1) = false := by rcases hbb with rfl | rfl <;> rfl
  obtain ⟨c0, c1, c2⟩ := HC.out _ (Fr.refl _ _)
  go_enter Tryd.func9, Tryd.ntmps9
  rcases hbb with rfl | rfl

  · go_wp2_with fail
    generalize (w.alloc (.cells #[.int .i64 (W : Int), .int .i64 (H : Int), .slice (some ⟨g, 0, none⟩) N cap] 39)) = w0 at *
    refine (HS1.out _).mono ?_
    rintro e w1 ⟨⟨A1, C1, rfl, s1⟩, rfl⟩
    have HP1 : Hid (SpanOK x ww W A1 C1) := s1
    clear s1
    go_wp2_with fail
    refine (HS2.out _).mono ?_
    rintro e w1' ⟨⟨A2, C2, rfl, s2⟩, rfl⟩
    have HP2 : Hid (SpanOK y hh H A2 C2) := s2
    clear s2 c0 c1 c2
    go_wp2_with fail
    go_loopw [17, 18] (fun j _ wr => ∃ J : Int, A2 ≤ J ∧ (J ≤ C2 ∨ J = A2) ∧ j = .int .i64 J ∧ RowAt wr g cap W H (setG (fun _ _ => c) x y A1 C1 A2 J A1 P) ∧ Fr (fun k => k = g) w1' wr) (fun j _ _ => (C2 - intOf j).toNat)
    case atStart => exact ⟨A2, Int.le_refl _, Or.inr rfl, rfl, by rw [setG_first]; exact HR.out.kept HA.out (fun h => h), Fr.refl _ _⟩
    case round =>
      obtain ⟨J, hJ1, hJ2, rfl, hrow, hfr⟩ := hrel
      have HJ : Hid (A2 ≤ J ∧ (J ≤ C2 ∨ J = A2)) := ⟨hJ1, hJ2⟩
      have HRo : Hid (RowAt wr g cap W H (setG (fun _ _ => c) x y A1 C1 A2 J A1 P)) := hrow
      have HFr : Hid (Fr (fun k => k = g) w1' wr) := hfr
      clear hrow hfr hJ1 hJ2
      by_cases hJH : J < C2
      · have hdJ : decide (J < C2) = true := decide_eq_true hJH
        have HOW2 : Hid (0 ≤ y + J ∧ y + J < H ∧ A2 ≤ J) := by
          have h := HP2.out.own
          have h2 := HJ.out
          show _ ∧ _
          omega
        go_wp2_with fail
        go_loopw [18] (fun i wr => ∃ I : Int, A1 ≤ I ∧ (I ≤ C1 ∨ I = A1) ∧ i = .int .i64 I ∧ RowAt wr g cap W H (setG (fun _ _ => c) x y A1 C1 A2 J I P) ∧ Fr (fun k => k = g) w1' wr) (fun i _ => (C1 - intOf i).toNat)
        case atStart => exact ⟨A1, Int.le_refl _, Or.inr rfl, rfl, HRo.out, HFr.out⟩
        case round =>
          obtain ⟨I, hI1, hI2, rfl, hrow, hfr⟩ := hrel
          have HI : Hid (A1 ≤ I ∧ (I ≤ C1 ∨ I = A1)) := ⟨hI1, hI2⟩
          have HRi : Hid (RowAt wr g cap W H (setG (fun _ _ => c) x y A1 C1 A2 J I P)) := hrow
          have HFi : Hid (Fr (fun k => k = g) w1' wr) := hfr
          obtain ⟨c0, c1, c2⟩ := HC.out _ hfr
          clear hrow hfr hI1 hI2
          by_cases hIW : I < C1
          · have hdI : decide (I < C1) = true := decide_eq_true hIW
            have HOW1 : Hid (0 ≤ x + I ∧ x + I < W ∧ A1 ≤ I) := by
              have h := HP1.out.own
              have h2 := HI.out
              show _ ∧ _
              omega
            obtain ⟨a0, ha0⟩ : ∃ a0 : Nat, x + I = (a0 : Int) := ⟨(x + I).toNat, by have := HOW1.out; omega⟩
            obtain ⟨b0, hb0'⟩ : ∃ b0 : Nat, y + J = (b0 : Int) := ⟨(y + J).toNat, by have := HOW2.out; omega⟩
            have hw1 : IntKind.i64.wrap (x + I) = (a0 : Int) := by have := HOW1.out; rw [IntKind.wrap_i64]; omega
            have hw2 : IntKind.i64.wrap (y + J) = (b0 : Int) := by have := HOW2.out; rw [IntKind.wrap_i64]; omega
            have hw3 : IntKind.i64.wrap (I + 1) = I + 1 := by have h1 := HP1.out.hi; have h2 := HP1.out.lo; have h3 := HOW1.out; have h4 := HBB.out; rw [IntKind.wrap_i64]; omega
            have HA0 : Hid (x + I = (a0 : Int)) := ha0
            have HB0 : Hid (y + J = (b0 : Int)) := hb0'
            clear ha0 hb0'
            have HPu : Hid (∀ w', Fr (fun _ => False) wr w' → Calls Tryd.prog 35 #[.agg #[.int .i64 (W : Int), .int .i64 (H : Int), .slice (some ⟨g, 0, none⟩) N cap], .int .i64 (a0 : Int), .int .i64 (b0 : Int), .int .i64 0] w' fun e w'' => e = .returned (.tuple #[]) ∧ RowAt w'' g cap W H (setG (fun _ _ => c) x y A1 C1 A2 J (I + 1) P) ∧ Fr (fun k => k = g) w' w'') := fun w' hf => by
              have h1 := HB.out
              have o1 := HOW1.out
              have o2 := HOW2.out
              have q1 := HA0.out
              have q2 := HB0.out
              rw [HN.out, setG_next (A0 := a0) (E0 := b0) o1.2.2 hIW o2.2.2 q1 q2]
              have h4 := zput_any W H g cap (setG (fun _ _ => c) x y A1 C1 A2 J I P) a0 b0 c w' (HRi.out.kept hf (fun h => h)) h1.1 h1.2.1 h1.2.2 (by omega) (by omega)
              rw [← HBC.out] at h4
              exact h4
            go_wp2_with fail
            refine (HPu.out _ (by repeat (first | with_reducible exact Fr.refl _ _ | with_reducible refine Fr.drew ?_))).mono ?_
            rintro e w9 ⟨rfl, hr9, hf9⟩
            have HR9 : Hid (RowAt w9 g cap W H (setG (fun _ _ => c) x y A1 C1 A2 J (I + 1) P)) := hr9
            have HF9 : Hid (Fr (fun k => k = g) w1' w9) := HFi.out.trans hf9 (fun _ _ h => h)
            clear hr9 hf9 c0 c1 c2
            go_wp2_with fail
            go_roundw
            case rel => exact ⟨I + 1, by have := HOW1.out; omega, Or.inl (by omega), rfl, HR9.out, HF9.out⟩
            case measure => simp [intOf]; omega
          · have hdI : decide (I < C1) = false := decide_eq_false hIW
            have hw3 : IntKind.i64.wrap (J + 1) = J + 1 := by have h1 := HP2.out.hi; have h2 := HP2.out.lo; have h3 := HOW2.out; have h4 := HBB.out; rw [IntKind.wrap_i64]; omega
            clear c0 c1 c2
            go_wp2_with fail
            go_roundw
            case rel => exact ⟨J + 1, by have := HOW2.out; omega, Or.inl (by omega), rfl, by rw [← setG_row (i := I) (by omega)]; exact HRi.out, HFi.out⟩
            case measure => simp [intOf]; omega
      · have hdJ : decide (J < C2) = false := decide_eq_false hJH
        go_wp2_with fail
        go_ret
        exact ⟨rfl, HRo.out.pixO (fill_setG c P HP1.out HP2.out HJ.out.2 (by omega)), (HA.out.mono (fun _ _ h => h.elim)).trans HFr.out (fun _ _ h => h)⟩
  · go_wp2_with fail
    generalize (w.alloc (.cells #[.int .i64 (W : Int), .int .i64 (H : Int), .slice (some ⟨g, 0, none⟩) N cap] 39)) = w0 at *
    refine (HS1.out _).mono ?_
    rintro e w1 ⟨⟨A1, C1, rfl, s1⟩, rfl⟩
    have HP1 : Hid (SpanOK x ww W A1 C1) := s1
    clear s1
    go_wp2_with fail
    refine (HS2.out _).mono ?_
    rintro e w1' ⟨⟨A2, C2, rfl, s2⟩, rfl⟩
    have HP2 : Hid (SpanOK y hh H A2 C2) := s2
    clear s2 c0 c1 c2
    go_wp2_with fail
    go_loopw [17, 18] (fun j _ wr => ∃ J : Int, A2 ≤ J ∧ (J ≤ C2 ∨ J = A2) ∧ j = .int .i64 J ∧ RowAt wr g cap W H (setG (fun _ _ => c) x y A1 C1 A2 J A1 P) ∧ Fr (fun k => k = g) w1' wr) (fun j _ _ => (C2 - intOf j).toNat)
    case atStart => exact ⟨A2, Int.le_refl _, Or.inr rfl, rfl, by rw [setG_first]; exact HR.out.kept HA.out (fun h => h), Fr.refl _ _⟩
    case round =>
      obtain ⟨J, hJ1, hJ2, rfl, hrow, hfr⟩ := hrel
      have HJ : Hid (A2 ≤ J ∧ (J ≤ C2 ∨ J = A2)) := ⟨hJ1, hJ2⟩
      have HRo : Hid (RowAt wr g cap W H (setG (fun _ _ => c) x y A1 C1 A2 J A1 P)) := hrow
      have HFr : Hid (Fr (fun k => k = g) w1' wr) := hfr
      clear hrow hfr hJ1 hJ2
      by_cases hJH : J < C2
      · have hdJ : decide (J < C2) = true := decide_eq_true hJH
        have HOW2 : Hid (0 ≤ y + J ∧ y + J < H ∧ A2 ≤ J) := by
          have h := HP2.out.own
          have h2 := HJ.out
          show _ ∧ _
          omega
        go_wp2_with fail
        go_loopw [18] (fun i wr => ∃ I : Int, A1 ≤ I ∧ (I ≤ C1 ∨ I = A1) ∧ i = .int .i64 I ∧ RowAt wr g cap W H (setG (fun _ _ => c) x y A1 C1 A2 J I P) ∧ Fr (fun k => k = g) w1' wr) (fun i _ => (C1 - intOf i).toNat)
        case atStart => exact ⟨A1, Int.le_refl _, Or.inr rfl, rfl, HRo.out, HFr.out⟩
        case round =>
          obtain ⟨I, hI1, hI2, rfl, hrow, hfr⟩ := hrel
          have HI : Hid (A1 ≤ I ∧ (I ≤ C1 ∨ I = A1)) := ⟨hI1, hI2⟩
          have HRi : Hid (RowAt wr g cap W H (setG (fun _ _ => c) x y A1 C1 A2 J I P)) := hrow
          have HFi : Hid (Fr (fun k => k = g) w1' wr) := hfr
          obtain ⟨c0, c1, c2⟩ := HC.out _ hfr
          clear hrow hfr hI1 hI2
          by_cases hIW : I < C1
          · have hdI : decide (I < C1) = true := decide_eq_true hIW
            have HOW1 : Hid (0 ≤ x + I ∧ x + I < W ∧ A1 ≤ I) := by
              have h := HP1.out.own
              have h2 := HI.out
              show _ ∧ _
              omega
            obtain ⟨a0, ha0⟩ : ∃ a0 : Nat, x + I = (a0 : Int) := ⟨(x + I).toNat, by have := HOW1.out; omega⟩
            obtain ⟨b0, hb0'⟩ : ∃ b0 : Nat, y + J = (b0 : Int) := ⟨(y + J).toNat, by have := HOW2.out; omega⟩
            have hw1 : IntKind.i64.wrap (x + I) = (a0 : Int) := by have := HOW1.out; rw [IntKind.wrap_i64]; omega
            have hw2 : IntKind.i64.wrap (y + J) = (b0 : Int) := by have := HOW2.out; rw [IntKind.wrap_i64]; omega
            have hw3 : IntKind.i64.wrap (I + 1) = I + 1 := by have h1 := HP1.out.hi; have h2 := HP1.out.lo; have h3 := HOW1.out; have h4 := HBB.out; rw [IntKind.wrap_i64]; omega
            have HA0 : Hid (x + I = (a0 : Int)) := ha0
            have HB0 : Hid (y + J = (b0 : Int)) := hb0'
            clear ha0 hb0'
            have HPu : Hid (∀ w', Fr (fun _ => False) wr w' → Calls Tryd.prog 35 #[.agg #[.int .i64 (W : Int), .int .i64 (H : Int), .slice (some ⟨g, 0, none⟩) N cap], .int .i64 (a0 : Int), .int .i64 (b0 : Int), .int .i64 1] w' fun e w'' => e = .returned (.tuple #[]) ∧ RowAt w'' g cap W H (setG (fun _ _ => c) x y A1 C1 A2 J (I + 1) P) ∧ Fr (fun k => k = g) w' w'') := fun w' hf => by
              have h1 := HB.out
              have o1 := HOW1.out
              have o2 := HOW2.out
              have q1 := HA0.out
              have q2 := HB0.out
              rw [HN.out, setG_next (A0 := a0) (E0 := b0) o1.2.2 hIW o2.2.2 q1 q2]
              have h4 := zput_any W H g cap (setG (fun _ _ => c) x y A1 C1 A2 J I P) a0 b0 c w' (HRi.out.kept hf (fun h => h)) h1.1 h1.2.1 h1.2.2 (by omega) (by omega)
              rw [← HBC.out] at h4
              exact h4
            go_wp2_with fail
            refine (HPu.out _ (by repeat (first | with_reducible exact Fr.refl _ _ | with_reducible refine Fr.drew ?_))).mono ?_
            rintro e w9 ⟨rfl, hr9, hf9⟩
            have HR9 : Hid (RowAt w9 g cap W H (setG (fun _ _ => c) x y A1 C1 A2 J (I + 1) P)) := hr9
            have HF9 : Hid (Fr (fun k => k = g) w1' w9) := HFi.out.trans hf9 (fun _ _ h => h)
            clear hr9 hf9 c0 c1 c2
            go_wp2_with fail
            go_roundw
            case rel => exact ⟨I + 1, by have := HOW1.out; omega, Or.inl (by omega), rfl, HR9.out, HF9.out⟩
            case measure => simp [intOf]; omega
          · have hdI : decide (I < C1) = false := decide_eq_false hIW
            have hw3 : IntKind.i64.wrap (J + 1) = J + 1 := by have h1 := HP2.out.hi; have h2 := HP2.out.lo; have h3 := HOW2.out; have h4 := HBB.out; rw [IntKind.wrap_i64]; omega
            clear c0 c1 c2
            go_wp2_with fail
            go_roundw
            case rel => exact ⟨J + 1, by have := HOW2.out; omega, Or.inl (by omega), rfl, by rw [← setG_row (i := I) (by omega)]; exact HRi.out, HFi.out⟩
            case measure => simp [intOf]; omega
      · have hdJ : decide (J < C2) = false := decide_eq_false hJH
        go_wp2_with fail
        go_ret
        exact ⟨rfl, HRo.out.pixO (fill_setG c P HP1.out HP2.out HJ.out.2 (by omega)), (HA.out.mono (fun _ _ h => h.elim)).trans HFr.out (fun _ _ h => h)⟩
end Go.Proofs.YtflhbmapikdmhaaDoor
