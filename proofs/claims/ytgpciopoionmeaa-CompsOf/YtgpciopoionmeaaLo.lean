/- The document's own 'Lay' with OpOr, wherever it is laid. -/
import Derived.Test.YtgpciopoionmeaaCp
import Derived.Test.YtgpciopoionmeaaRef
namespace Go.Proofs.Ytgpciopoionmeaa
open Go.RowKit

/-- Laid onto pixels at (X, Y) up to the place (i, j) of what is laid. -/
def laidO (X Y : Int) (W j i : Nat) (P Q : Nat → Nat → Bool) : Nat → Nat → Bool := fun a e => Q a e || (decide (0 ≤ (a : Int) - X ∧ (a : Int) - X < W ∧ 0 ≤ (e : Int) - Y ∧ ((e : Int) - Y < j ∨ ((e : Int) - Y = j ∧ (a : Int) - X < i))) && P ((a : Int) - X).toNat ((e : Int) - Y).toNat)
theorem laidO_first (X Y : Int) (W : Nat) (P Q : Nat → Nat → Bool) : laidO X Y W 0 0 P Q = Q := by
  funext a e; unfold laidO; rw [decide_eq_false (by omega)]; simp
theorem laidO_next {X Y : Int} {W j i a0 b0 : Nat} (P Q : Nat → Nat → Bool) (hi : i < W) (ha : X + (i : Int) = (a0 : Int)) (hb : Y + (j : Int) = (b0 : Int)) : laidO X Y W j (i + 1) P Q = putPix (laidO X Y W j i P Q) a0 b0 (laidO X Y W j i P Q a0 b0 || P i j) := by
  funext a e
  unfold putPix
  by_cases h1 : a = a0 ∧ e = b0
  · obtain ⟨rfl, rfl⟩ := h1
    rw [if_pos ⟨rfl, rfl⟩]
    unfold laidO
    rw [decide_eq_true (by omega), decide_eq_false (by omega), show ((a : Int) - X).toNat = i by omega, show ((e : Int) - Y).toNat = j by omega]
    simp
  · rw [if_neg h1]
    unfold laidO
    congr 2
    exact decide_eq_decide.2 (by omega)
theorem laidO_skip {X Y : Int} {W j i V U : Nat} (P Q : Nat → Nat → Bool) (h : X + (i : Int) < 0 ∨ (V : Int) ≤ X + (i : Int) ∨ Y + (j : Int) < 0 ∨ (U : Int) ≤ Y + (j : Int)) : ∀ a e, a < V → e < U → laidO X Y W j i P Q a e = laidO X Y W j (i + 1) P Q a e := by
  intro a e ha he
  unfold laidO
  congr 2
  exact decide_eq_decide.2 (by omega)
theorem laidO_row (X Y : Int) (W j : Nat) (P Q : Nat → Nat → Bool) : laidO X Y W j W P Q = laidO X Y W (j + 1) 0 P Q := by
  funext a e
  unfold laidO
  congr 2
  exact decide_eq_decide.2 (by omega)
theorem laidO_none {X Y : Int} {W H V U : Nat} (P Q : Nat → Nat → Bool) (h : (V : Int) ≤ X ∨ (U : Int) ≤ Y ∨ X ≤ -(W : Int) ∨ Y ≤ -(H : Int)) : ∀ a e, a < V → e < U → Q a e = laidO X Y W H 0 P Q a e := by
  intro a e ha he
  unfold laidO
  rw [decide_eq_false (by omega)]; simp
theorem RowAt.pixO {w : World} {g cap W H : Nat} {P Q : Nat → Nat → Bool} (h : RowAt w g cap W H P) (e : ∀ x y, x < W → y < H → P x y = Q x y) : RowAt w g cap W H Q := by
  unfold RowAt at h ⊢
  rwa [render_congr e] at h

set_option maxRecDepth 100000 in
set_option maxHeartbeats 40000000 in
theorem lay_or (V U g cg : Nat) (Q : Nat → Nat → Bool) (X Y : Int) (W H : Nat) (v : Value) (P : Nat → Nat → Bool) (w : World) (hr : RowAt w g cg V U Q) (hs : ∀ w', Fr (fun k => k = g) w w' → Bm w' v W H P) (h1 : 1 ≤ V) (h2 : 1 ≤ U) (h3 : V * U ≤ 1048576) (hX : -9223372036854775808 ≤ X ∧ X ≤ 9223372036854775807) (hY : -9223372036854775808 ≤ Y ∧ Y ≤ 9223372036854775807) :
    Calls Try.prog 31 #[.agg #[.int .i64 V, .int .i64 U, .slice (some ⟨g, 0, none⟩) (U * stride V) cg], .int .i64 X, .int .i64 Y, .int .i64 0, .agg #[.int .i64 W, .int .i64 H, v]] w fun e w' => e = .returned (.tuple #[]) ∧ RowAt w' g cg V U (laidO X Y W H 0 P Q) ∧ Fr (fun k => k = g) w w' := by
  obtain ⟨f1, f2, f3⟩ := size_facts h1 h2 h3
  have hb := hs w (Fr.refl _ _)
  have hW1 := hb.h1
  have hH1 := hb.h2
  have HS : Hid (∀ w', Fr (fun k => k = g) w w' → Bm w' v W H P) := hs
  have HR : Hid (RowAt w g cg V U Q) := hr
  have HB : Hid (1 ≤ V ∧ 1 ≤ U ∧ V * U ≤ 1048576 ∧ V ≤ 1048576 ∧ U ≤ 1048576) := ⟨h1, h2, h3, f1, f2⟩
  obtain ⟨s1, s2, _⟩ := size_facts hb.h1 hb.h2 hb.h3
  have HGL : Hid (g < w.heap.size) := hr.lt
  obtain ⟨N, HN⟩ : ∃ N, Hid (N = U * stride V) := ⟨_, rfl⟩
  rw [← HN.out]
  obtain ⟨ao, cap, rfl, _, _⟩ := hb.seen
  generalize (render W H P).length = n at *
  have HA : Hid (Fr (fun _ => False) w ((w.alloc (.cells #[.int .i64 V, .int .i64 U, .slice (some ⟨g, 0, none⟩) N cg] 25)).alloc (.cells #[.int .i64 W, .int .i64 H, .slice ao n cap] 25))) := ((Fr.refl _ _).alloc _).alloc _
  have HC : Hid (∀ w', Fr (fun k => k = g) ((w.alloc (.cells #[.int .i64 V, .int .i64 U, .slice (some ⟨g, 0, none⟩) N cg] 25)).alloc (.cells #[.int .i64 W, .int .i64 H, .slice ao n cap] 25)) w' → (w'.cell? ⟨w.heap.size, 0, none⟩ = some (.int .i64 V) ∧ w'.cell? ⟨w.heap.size, 1, none⟩ = some (.int .i64 U) ∧ w'.cell? ⟨w.heap.size, 2, none⟩ = some (.slice (some ⟨g, 0, none⟩) N cg)) ∧ w'.cell? ⟨w.heap.size + 1, 0, none⟩ = some (.int .i64 W) ∧ w'.cell? ⟨w.heap.size + 1, 1, none⟩ = some (.int .i64 H) ∧ w'.cell? ⟨w.heap.size + 1, 2, none⟩ = some (.slice ao n cap)) := fun w' hf => by
    have hgl := HGL.out
    have e1 : ((w.alloc (.cells #[.int .i64 V, .int .i64 U, .slice (some ⟨g, 0, none⟩) N cg] 25)).alloc (.cells #[.int .i64 W, .int .i64 H, .slice ao n cap] 25)).heap[w.heap.size]? = some (.cells #[.int .i64 V, .int .i64 U, .slice (some ⟨g, 0, none⟩) N cg] 25 (0, 0)) := blkUp (heap_alloc_new _ _) _
    have e2 : ((w.alloc (.cells #[.int .i64 V, .int .i64 U, .slice (some ⟨g, 0, none⟩) N cg] 25)).alloc (.cells #[.int .i64 W, .int .i64 H, .slice ao n cap] 25)).heap[w.heap.size + 1]? = some (.cells #[.int .i64 W, .int .i64 H, .slice ao n cap] 25 (0, 0)) := by
      have := heap_alloc_new (w.alloc (.cells #[.int .i64 V, .int .i64 U, .slice (some ⟨g, 0, none⟩) N cg] 25)) (.cells #[.int .i64 W, .int .i64 H, .slice ao n cap] 25)
      rwa [World.size_alloc] at this
    obtain ⟨a0, a1, a2, _⟩ := cell_of_three ((hf.block _ (lt_of_block e1) (by omega)).trans e1)
    obtain ⟨b0, b1, b2, _⟩ := cell_of_three ((hf.block _ (lt_of_block e2) (by omega)).trans e2)
    exact ⟨⟨a0, a1, a2⟩, b0, b1, b2⟩
  have hn1 : IntKind.i64.wrap (-(W : Int)) = -(W : Int) := by rw [IntKind.wrap_i64]; omega
  have hn2 : IntKind.i64.wrap (-(H : Int)) = -(H : Int) := by rw [IntKind.wrap_i64]; omega
  clear hb hs hr h1 h2 h3 f3
  rcases Int.lt_or_le (X) ((V : Int)) with q0 | q0
  rotate_left
  · have d0 : decide ((V : Int) ≤ X) = true := decide_eq_true (by omega)
    go_enter Try.func31, Try.ntmps31
    go_wp2_with fail
    (try simp only [Exit.inBlock, Exit.then]); refine bodyPost_ret (results_none rfl _ _ _) rfl ?_
    exact ⟨rfl, (HR.out.kept HA.out (fun h => h)).pixO (laidO_none P Q (by omega)), HA.out.mono (fun _ _ h => h.elim)⟩
  rcases Int.lt_or_le (Y) ((U : Int)) with q1 | q1
  rotate_left
  · have d0 : decide ((V : Int) ≤ X) = false := decide_eq_false (by omega)
    have d1 : decide ((U : Int) ≤ Y) = true := decide_eq_true (by omega)
    go_enter Try.func31, Try.ntmps31
    go_wp2_with fail
    (try simp only [Exit.inBlock, Exit.then]); refine bodyPost_ret (results_none rfl _ _ _) rfl ?_
    exact ⟨rfl, (HR.out.kept HA.out (fun h => h)).pixO (laidO_none P Q (by omega)), HA.out.mono (fun _ _ h => h.elim)⟩
  rcases Int.lt_or_le (-(W : Int)) (X) with q2 | q2
  rotate_left
  · have d0 : decide ((V : Int) ≤ X) = false := decide_eq_false (by omega)
    have d1 : decide ((U : Int) ≤ Y) = false := decide_eq_false (by omega)
    have d2 : decide (X ≤ -(W : Int)) = true := decide_eq_true (by omega)
    go_enter Try.func31, Try.ntmps31
    go_wp2_with fail
    (try simp only [Exit.inBlock, Exit.then]); refine bodyPost_ret (results_none rfl _ _ _) rfl ?_
    exact ⟨rfl, (HR.out.kept HA.out (fun h => h)).pixO (laidO_none P Q (by omega)), HA.out.mono (fun _ _ h => h.elim)⟩
  rcases Int.lt_or_le (-(H : Int)) (Y) with q3 | q3
  rotate_left
  · have d0 : decide ((V : Int) ≤ X) = false := decide_eq_false (by omega)
    have d1 : decide ((U : Int) ≤ Y) = false := decide_eq_false (by omega)
    have d2 : decide (X ≤ -(W : Int)) = false := decide_eq_false (by omega)
    have d3 : decide (Y ≤ -(H : Int)) = true := decide_eq_true (by omega)
    go_enter Try.func31, Try.ntmps31
    go_wp2_with fail
    (try simp only [Exit.inBlock, Exit.then]); refine bodyPost_ret (results_none rfl _ _ _) rfl ?_
    exact ⟨rfl, (HR.out.kept HA.out (fun h => h)).pixO (laidO_none P Q (by omega)), HA.out.mono (fun _ _ h => h.elim)⟩
  have hd1 : decide ((V : Int) ≤ X) = false := decide_eq_false (by omega)
  have hd2 : decide ((U : Int) ≤ Y) = false := decide_eq_false (by omega)
  have hd3 : decide (X ≤ -(W : Int)) = false := decide_eq_false (by omega)
  have hd4 : decide (Y ≤ -(H : Int)) = false := decide_eq_false (by omega)
  go_enter Try.func31, Try.ntmps31
  go_wp2_with fail
  generalize (w.alloc (.cells #[.int .i64 V, .int .i64 U, .slice (some ⟨g, 0, none⟩) N cg] 25)).alloc (.cells #[.int .i64 W, .int .i64 H, .slice ao n cap] 25) = w0 at *
  go_loopw [10, 11] (fun j _ wr => ∃ J : Nat, J ≤ H ∧ j = .int .i64 J ∧ RowAt wr g cg V U (laidO X Y W J 0 P Q) ∧ Fr (fun k => k = g) w0 wr) (fun j _ _ => H - (intOf j).toNat)
  case atStart => exact ⟨0, Nat.zero_le _, rfl, by rw [laidO_first]; exact HR.out.kept HA.out (fun h => h), Fr.refl _ _⟩
  case round =>
    obtain ⟨J, hJ, rfl, hrow, hfr⟩ := hrel
    have HRo : Hid (RowAt wr g cg V U (laidO X Y W J 0 P Q)) := hrow
    have HFr : Hid (Fr (fun k => k = g) w0 wr) := hfr
    obtain ⟨⟨c0, c1, c2⟩, d0, d1, d2⟩ := HC.out _ hfr
    clear hrow hfr
    by_cases hJH : J < H
    · have hdJ : decide (J < H) = true := decide_eq_true hJH
      go_wp2_with fail
      go_loopw [11] (fun i wr => ∃ I : Nat, I ≤ W ∧ i = .int .i64 I ∧ RowAt wr g cg V U (laidO X Y W J I P Q) ∧ Fr (fun k => k = g) w0 wr) (fun i _ => W - (intOf i).toNat)
      case atStart => exact ⟨0, Nat.zero_le _, rfl, HRo.out, HFr.out⟩
      case round =>
        obtain ⟨I, hI, rfl, hrow, hfr⟩ := hrel
        have HRi : Hid (RowAt wr g cg V U (laidO X Y W J I P Q)) := hrow
        have HFi : Hid (Fr (fun k => k = g) w0 wr) := hfr
        clear c0 c1 c2 d0 d1 d2
        obtain ⟨⟨c0, c1, c2⟩, d0, d1, d2⟩ := HC.out _ hfr
        clear hrow hfr
        by_cases hIW : I < W
        · have hdI : decide (I < W) = true := decide_eq_true hIW
          have hw1 : IntKind.i64.wrap (X + (I : Int)) = X + (I : Int) := by rw [IntKind.wrap_i64]; omega
          have hw2 : IntKind.i64.wrap (Y + (J : Int)) = Y + (J : Int) := by rw [IntKind.wrap_i64]; omega
          by_cases p0 : X + (I : Int) < 0
          · have e0 : decide (0 ≤ X + (I : Int)) = false := decide_eq_false (by omega)
            have HSK : Hid (RowAt wr g cg V U (laidO X Y W J (I + 1) P Q)) := HRi.out.pixO (laidO_skip P Q (by omega))
            go_wp2_with fail
            go_roundw
            case rel => exact ⟨I + 1, by omega, congrArg (Value.int .i64) (by omega), HSK.out, HFi.out⟩
            case measure => simp [intOf]; omega
          by_cases p1 : (V : Int) ≤ X + (I : Int)
          · have e0 : decide (0 ≤ X + (I : Int)) = true := decide_eq_true (by omega)
            have e1 : decide (X + (I : Int) < (V : Int)) = false := decide_eq_false (by omega)
            have HSK : Hid (RowAt wr g cg V U (laidO X Y W J (I + 1) P Q)) := HRi.out.pixO (laidO_skip P Q (by omega))
            go_wp2_with fail
            go_roundw
            case rel => exact ⟨I + 1, by omega, congrArg (Value.int .i64) (by omega), HSK.out, HFi.out⟩
            case measure => simp [intOf]; omega
          by_cases p2 : Y + (J : Int) < 0
          · have e0 : decide (0 ≤ X + (I : Int)) = true := decide_eq_true (by omega)
            have e1 : decide (X + (I : Int) < (V : Int)) = true := decide_eq_true (by omega)
            have e2 : decide (0 ≤ Y + (J : Int)) = false := decide_eq_false (by omega)
            have HSK : Hid (RowAt wr g cg V U (laidO X Y W J (I + 1) P Q)) := HRi.out.pixO (laidO_skip P Q (by omega))
            go_wp2_with fail
            go_roundw
            case rel => exact ⟨I + 1, by omega, congrArg (Value.int .i64) (by omega), HSK.out, HFi.out⟩
            case measure => simp [intOf]; omega
          by_cases p3 : (U : Int) ≤ Y + (J : Int)
          · have e0 : decide (0 ≤ X + (I : Int)) = true := decide_eq_true (by omega)
            have e1 : decide (X + (I : Int) < (V : Int)) = true := decide_eq_true (by omega)
            have e2 : decide (0 ≤ Y + (J : Int)) = true := decide_eq_true (by omega)
            have e3 : decide (Y + (J : Int) < (U : Int)) = false := decide_eq_false (by omega)
            have HSK : Hid (RowAt wr g cg V U (laidO X Y W J (I + 1) P Q)) := HRi.out.pixO (laidO_skip P Q (by omega))
            go_wp2_with fail
            go_roundw
            case rel => exact ⟨I + 1, by omega, congrArg (Value.int .i64) (by omega), HSK.out, HFi.out⟩
            case measure => simp [intOf]; omega
          obtain ⟨a0, ha0⟩ : ∃ a0 : Nat, X + (I : Int) = (a0 : Int) := ⟨(X + I).toNat, by omega⟩
          obtain ⟨b0, hb0⟩ : ∃ b0 : Nat, Y + (J : Int) = (b0 : Int) := ⟨(Y + J).toNat, by omega⟩
          have HA0 : Hid (X + (I : Int) = (a0 : Int)) := ha0
          have HB0 : Hid (Y + (J : Int) = (b0 : Int)) := hb0
          have hw3 : IntKind.i64.wrap (a0 : Int) = (a0 : Int) := by rw [IntKind.wrap_i64]; omega
          have hw4 : IntKind.i64.wrap (b0 : Int) = (b0 : Int) := by rw [IntKind.wrap_i64]; omega
          have hav : a0 < V := by omega
          have hbu : b0 < U := by omega
          have hd5 : decide (0 ≤ (a0 : Int)) = true := decide_eq_true (by omega)
          have hd6 : decide ((a0 : Int) < (V : Int)) = true := decide_eq_true (by omega)
          have hd7 : decide (0 ≤ (b0 : Int)) = true := decide_eq_true (by omega)
          have hd8 : decide ((b0 : Int) < (U : Int)) = true := decide_eq_true (by omega)
          have hd9 : decide (a0 < V) = true := decide_eq_true hav
          have hd10 : decide (b0 < U) = true := decide_eq_true hbu
          have HG1 : Hid (∀ w', Fr (fun _ => False) wr w' → Calls Try.prog 24 #[.agg #[.int .i64 V, .int .i64 U, .slice (some ⟨g, 0, none⟩) N cg], .int .i64 a0, .int .i64 b0] w' fun e w'' => e = .returned (.int .i64 ((laidO X Y W J I P Q a0 b0).toNat : Nat)) ∧ Fr (fun _ => False) w' w'') := fun w' hf => by
            have h1 := HB.out
            have h2 := (HRi.out.kept hf (fun h => h)).seen (size_facts h1.1 h1.2.1 h1.2.2.1).2.2
            rw [HN.out]
            exact zget_in V U _ (laidO X Y W J I P Q) a0 b0 w' h2 h1.1 h1.2.1 h1.2.2.1 hav hbu
          have HG2 : Hid (∀ w', Fr (fun _ => False) wr w' → Calls Try.prog 24 #[.agg #[.int .i64 W, .int .i64 H, .slice ao n cap], .int .i64 I, .int .i64 J] w' fun e w'' => e = .returned (.int .i64 ((P I J).toNat : Nat)) ∧ Fr (fun _ => False) w' w'') := fun w' hf => by
            have h1 := HS.out _ ((HA.out.mono (fun _ _ h => h.elim)).trans (HFi.out.trans hf (fun _ _ h => h.elim)) (fun _ _ h => h))
            exact zget_in W H _ P I J w' h1.seen h1.h1 h1.h2 h1.h3 hIW hJH
          have HD : Hid (∀ w' : World, Calls Try.prog 54 #[.int .i64 0, .int .i64 ((laidO X Y W J I P Q a0 b0).toNat : Nat), .int .i64 ((P I J).toNat : Nat)] w' fun e w'' => e = .returned (.int .i64 ((laidO X Y W J I P Q a0 b0 || P I J).toNat : Nat)) ∧ w'' = w') := fun w' => by
            have h := do_any 0 (laidO X Y W J I P Q a0 b0) (P I J) w' (by omega)
            exact h
          have HPu : Hid (∀ w', Fr (fun _ => False) wr w' → Calls Try.prog 53 #[.agg #[.int .i64 V, .int .i64 U, .slice (some ⟨g, 0, none⟩) N cg], .int .i64 a0, .int .i64 b0, .int .i64 ((laidO X Y W J I P Q a0 b0 || P I J).toNat : Nat)] w' fun e w'' => e = .returned (.tuple #[]) ∧ RowAt w'' g cg V U (laidO X Y W J (I + 1) P Q) ∧ Fr (fun k => k = g) w' w'') := fun w' hf => by
            have h1 := HB.out
            rw [HN.out, laidO_next P Q hIW HA0.out HB0.out]
            exact zput_any V U g cg (laidO X Y W J I P Q) a0 b0 _ w' (HRi.out.kept hf (fun h => h)) h1.1 h1.2.1 h1.2.2.1 hav hbu
          generalize (laidO X Y W J I P Q a0 b0 || P I J).toNat = on at *
          generalize (laidO X Y W J I P Q a0 b0).toNat = pn at *
          generalize (P I J).toNat = qn at *
          clear p0 p1 p2 p3
          have HCI : Hid (∀ w', Fr (fun k => k = g) wr w' → (w'.cell? ⟨w.heap.size, 0, none⟩ = some (.int .i64 V) ∧ w'.cell? ⟨w.heap.size, 1, none⟩ = some (.int .i64 U) ∧ w'.cell? ⟨w.heap.size, 2, none⟩ = some (.slice (some ⟨g, 0, none⟩) N cg)) ∧ w'.cell? ⟨w.heap.size + 1, 0, none⟩ = some (.int .i64 W) ∧ w'.cell? ⟨w.heap.size + 1, 1, none⟩ = some (.int .i64 H) ∧ w'.cell? ⟨w.heap.size + 1, 2, none⟩ = some (.slice ao n cap)) := fun w' hf => HC.out _ (HFi.out.trans hf (fun _ _ h => h))
          go_wp2_with fail
          clear hd1 hd2 hd3 hd4 hn1 hn2 hdJ hdI hd5 hd6 hd7 hd8 hd9 hd10
          go_region_held3 (fun w' => w'.cell? ⟨w.heap.size, 0, none⟩ = some (.int .i64 V) ∧ w'.cell? ⟨w.heap.size, 1, none⟩ = some (.int .i64 U) ∧ w'.cell? ⟨w.heap.size, 2, none⟩ = some (.slice (some ⟨g, 0, none⟩) N cg) ∧ w'.cell? ⟨w.heap.size + 1, 0, none⟩ = some (.int .i64 W) ∧ w'.cell? ⟨w.heap.size + 1, 1, none⟩ = some (.int .i64 H) ∧ w'.cell? ⟨w.heap.size + 1, 2, none⟩ = some (.slice ao n cap)) (exact (fun h => ⟨h.1.1, h.1.2.1, h.1.2.2, h.2⟩) (HCI.out _ (by repeat (first | with_reducible exact Fr.refl _ _ | with_reducible refine Fr.drew ?_ | with_reducible refine Fr.trans ?_ hf9 (fun _ _ hh => hh) | with_reducible refine Fr.trans ?_ hf8 (fun _ _ hh => hh.elim) | with_reducible refine Fr.trans ?_ hf7 (fun _ _ hh => hh.elim))))) (first | (go_at_call 24; first | (with_reducible refine (HG1.out _ (by repeat (first | with_reducible exact Fr.refl _ _ | with_reducible refine Fr.drew ?_ | with_reducible refine Fr.trans ?_ hf8 (fun _ _ hh => hh)))).mono ?_; rintro e w7 ⟨rfl, hf7⟩) | (with_reducible refine (HG2.out _ (by repeat (first | with_reducible exact Fr.refl _ _ | with_reducible refine Fr.drew ?_ | with_reducible refine Fr.trans ?_ hf7 (fun _ _ hh => hh)))).mono ?_; rintro e w8 ⟨rfl, hf8⟩)) | (go_at_call 54; refine (HD.out _).mono ?_; rintro e wd ⟨rfl, rfl⟩) | (go_at_call 53; refine (HPu.out _ (by repeat (first | with_reducible exact Fr.refl _ _ | with_reducible refine Fr.drew ?_ | with_reducible refine Fr.trans ?_ hf8 (fun _ _ hh => hh) | with_reducible refine Fr.trans ?_ hf7 (fun _ _ hh => hh)))).mono ?_; rintro e w9 ⟨rfl, hr9, hf9⟩))
          all_goals go_wp2_with fail
          all_goals go_roundw
          all_goals first
            | (refine ⟨I + 1, by omega, congrArg (Value.int .i64) (by omega), hr9, HFi.out.trans ?_ (fun _ _ hh => hh)⟩; repeat (first | with_reducible exact Fr.refl _ _ | with_reducible refine Fr.drew ?_ | with_reducible refine Fr.trans ?_ hf9 (fun _ _ hh => hh) | with_reducible refine Fr.trans ?_ hf8 (fun _ _ hh => hh.elim) | with_reducible refine Fr.trans ?_ hf7 (fun _ _ hh => hh.elim)))
            | (simp [intOf]; omega)
        · obtain rfl : I = W := by omega
          have hdI : decide (I < I) = false := decide_eq_false (by omega)
          go_wp2_with fail
          go_roundw
          case rel => exact ⟨J + 1, by omega, congrArg (Value.int .i64) (by omega), by rw [← laidO_row]; exact HRi.out, HFi.out⟩
          case measure => simp [intOf]; omega
    · obtain rfl : H = J := by omega
      have hdJ : decide (H < H) = false := decide_eq_false (by omega)
      go_wp2_with fail
      go_end0
      exact ⟨rfl, HRo.out, (HA.out.mono (fun _ _ h => h.elim)).trans HFr.out (fun _ _ h => h)⟩


end Go.Proofs.Ytgpciopoionmeaa
