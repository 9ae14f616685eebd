/- The document's own 'Lay', replacing: a bitmap laid within another. -/
import Derived.Test.YtgpciopoionmeaaCp
import Derived.Test.YtgpciopoionmeaaRef
namespace Go.Proofs.Ytgpciopoionmeaa
open Go.RowKit

/-- Laid at (dx, dy) up to the place (i, j) of what is laid. -/
def laidTo (dx dy W j i : Nat) (P Q : Nat → Nat → Bool) : Nat → Nat → Bool := fun a e => if dx ≤ a ∧ a < dx + W ∧ dy ≤ e ∧ (e < dy + j ∨ (e = dy + j ∧ a < dx + i)) then P (a - dx) (e - dy) else Q a e
theorem laidTo_first (dx dy W : Nat) (P Q : Nat → Nat → Bool) : laidTo dx dy W 0 0 P Q = Q := by
  funext a e; unfold laidTo; rw [if_neg (by omega)]
theorem laidTo_next {dx dy W j i : Nat} (P Q : Nat → Nat → Bool) (hi : i < W) : laidTo dx dy W j (i + 1) P Q = putPix (laidTo dx dy W j i P Q) (dx + i) (dy + j) (P i j) := by
  funext a e
  unfold putPix laidTo
  by_cases h1 : a = dx + i ∧ e = dy + j
  · obtain ⟨rfl, rfl⟩ := h1
    rw [if_pos (by omega), if_pos ⟨rfl, rfl⟩, Nat.add_sub_cancel_left, Nat.add_sub_cancel_left]
  · rw [if_neg h1]
    by_cases h2 : dx ≤ a ∧ a < dx + W ∧ dy ≤ e ∧ (e < dy + j ∨ (e = dy + j ∧ a < dx + i))
    · rw [if_pos h2, if_pos (by omega)]
    · rw [if_neg h2, if_neg (by omega)]
theorem laidTo_row (dx dy W j : Nat) (P Q : Nat → Nat → Bool) : laidTo dx dy W j W P Q = laidTo dx dy W (j + 1) 0 P Q := by
  funext a e
  unfold laidTo
  by_cases h2 : dx ≤ a ∧ a < dx + W ∧ dy ≤ e ∧ (e < dy + j ∨ (e = dy + j ∧ a < dx + W))
  · rw [if_pos h2, if_pos (by omega)]
  · rw [if_neg h2, if_neg (by omega)]

set_option maxRecDepth 100000 in
set_option maxHeartbeats 40000000 in
theorem lay_any (V U g cg : Nat) (Q : Nat → Nat → Bool) (dx dy W H : Nat) (v : Value) (P : Nat → Nat → Bool) (w : World) (hr : RowAt w g cg V U Q) (hs : ∀ w', Fr (fun k => k = g) w w' → Bm w' v W H P) (h1 : 1 ≤ V) (h2 : 1 ≤ U) (h3 : V * U ≤ 1048576) (hdx : dx + W ≤ V) (hdy : dy + H ≤ U) :
    Calls Try.prog 31 #[.agg #[.int .i64 V, .int .i64 U, .slice (some ⟨g, 0, none⟩) (U * stride V) cg], .int .i64 dx, .int .i64 dy, .int .i64 4, .agg #[.int .i64 W, .int .i64 H, v]] w fun e w' => e = .returned (.tuple #[]) ∧ RowAt w' g cg V U (laidTo dx dy W H 0 P Q) ∧ Fr (fun k => k = g) w w' := by
  obtain ⟨f1, f2, f3⟩ := size_facts h1 h2 h3
  have hb := hs w (Fr.refl _ _)
  have hW1 := hb.h1
  have hH1 := hb.h2
  have HS : Hid (∀ w', Fr (fun k => k = g) w w' → Bm w' v W H P) := hs
  have HR : Hid (RowAt w g cg V U Q) := hr
  have HB : Hid (1 ≤ V ∧ 1 ≤ U ∧ V * U ≤ 1048576 ∧ dx + W ≤ V ∧ dy + H ≤ U ∧ V ≤ 1048576 ∧ U ≤ 1048576) := ⟨h1, h2, h3, hdx, hdy, f1, f2⟩
  have HGL : Hid (g < w.heap.size) := hr.lt
  obtain ⟨N, HN⟩ : ∃ N, Hid (N = U * stride V) := ⟨_, rfl⟩
  rw [← HN.out]
  obtain ⟨ao, cap, rfl, _, _⟩ := hb.seen
  generalize (render W H P).length = n at *
  have HA : Hid (Fr (fun _ => False) w ((w.alloc (.cells #[.int .i64 V, .int .i64 U, .slice (some ⟨g, 0, none⟩) N cg] 25)).alloc (.cells #[.int .i64 W, .int .i64 H, .slice ao n cap] 25))) := ((Fr.refl _ _).alloc _).alloc _
  have HC : Hid (∀ w', Fr (fun k => k = g) ((w.alloc (.cells #[.int .i64 V, .int .i64 U, .slice (some ⟨g, 0, none⟩) N cg] 25)).alloc (.cells #[.int .i64 W, .int .i64 H, .slice ao n cap] 25)) w' → (w'.cell? ⟨w.heap.size, 0, none⟩ = some (.int .i64 V) ∧ w'.cell? ⟨w.heap.size, 1, none⟩ = some (.int .i64 U) ∧ w'.cell? ⟨w.heap.size, 2, none⟩ = some (.slice (some ⟨g, 0, none⟩) N cg)) ∧ w'.cell? ⟨w.heap.size + 1, 0, none⟩ = some (.int .i64 W) ∧ w'.cell? ⟨w.heap.size + 1, 1, none⟩ = some (.int .i64 H) ∧ w'.cell? ⟨w.heap.size + 1, 2, none⟩ = some (.slice ao n cap)) := fun w' hf => by
    have hgl := HGL.out
    have e1 : ((w.alloc (.cells #[.int .i64 V, .int .i64 U, .slice (some ⟨g, 0, none⟩) N cg] 25)).alloc (.cells #[.int .i64 W, .int .i64 H, .slice ao n cap] 25)).heap[w.heap.size]? = some (.cells #[.int .i64 V, .int .i64 U, .slice (some ⟨g, 0, none⟩) N cg] 25 (0, 0)) := blkUp (heap_alloc_new _ _) _
    have e2 : ((w.alloc (.cells #[.int .i64 V, .int .i64 U, .slice (some ⟨g, 0, none⟩) N cg] 25)).alloc (.cells #[.int .i64 W, .int .i64 H, .slice ao n cap] 25)).heap[w.heap.size + 1]? = some (.cells #[.int .i64 W, .int .i64 H, .slice ao n cap] 25 (0, 0)) := by
      have := heap_alloc_new (w.alloc (.cells #[.int .i64 V, .int .i64 U, .slice (some ⟨g, 0, none⟩) N cg] 25)) (.cells #[.int .i64 W, .int .i64 H, .slice ao n cap] 25)
      rwa [World.size_alloc] at this
    obtain ⟨a0, a1, a2, _⟩ := cell_of_three ((hf.block _ (lt_of_block e1) (by omega)).trans e1)
    obtain ⟨b0, b1, b2, _⟩ := cell_of_three ((hf.block _ (lt_of_block e2) (by omega)).trans e2)
    exact ⟨⟨a0, a1, a2⟩, b0, b1, b2⟩
  have hd1 : decide (V ≤ dx) = false := decide_eq_false (by omega)
  have hd2 : decide (U ≤ dy) = false := decide_eq_false (by omega)
  have hn1 : IntKind.i64.wrap (-(W : Int)) = -(W : Int) := by rw [IntKind.wrap_i64]; omega
  have hn2 : IntKind.i64.wrap (-(H : Int)) = -(H : Int) := by rw [IntKind.wrap_i64]; omega
  have hd3 : decide ((dx : Int) ≤ -(W : Int)) = false := decide_eq_false (by omega)
  have hd4 : decide ((dy : Int) ≤ -(H : Int)) = false := decide_eq_false (by omega)
  clear hb hs hr h1 h2 h3 f3
  go_enter Try.func31, Try.ntmps31
  go_wp2_with fail
  generalize (w.alloc (.cells #[.int .i64 V, .int .i64 U, .slice (some ⟨g, 0, none⟩) N cg] 25)).alloc (.cells #[.int .i64 W, .int .i64 H, .slice ao n cap] 25) = w0 at *
  go_loopw [10, 11] (fun j _ wr => ∃ J : Nat, J ≤ H ∧ j = .int .i64 J ∧ RowAt wr g cg V U (laidTo dx dy W J 0 P Q) ∧ Fr (fun k => k = g) w0 wr) (fun j _ _ => H - (intOf j).toNat)
  case atStart => exact ⟨0, Nat.zero_le _, rfl, by rw [laidTo_first]; exact HR.out.kept HA.out (fun h => h), Fr.refl _ _⟩
  case round =>
    obtain ⟨J, hJ, rfl, hrow, hfr⟩ := hrel
    have HRo : Hid (RowAt wr g cg V U (laidTo dx dy W J 0 P Q)) := hrow
    have HFr : Hid (Fr (fun k => k = g) w0 wr) := hfr
    obtain ⟨⟨c0, c1, c2⟩, d0, d1, d2⟩ := HC.out _ hfr
    clear hrow hfr
    by_cases hJH : J < H
    · have hdJ : decide (J < H) = true := decide_eq_true hJH
      go_wp2_with fail
      go_loopw [11] (fun i wr => ∃ I : Nat, I ≤ W ∧ i = .int .i64 I ∧ RowAt wr g cg V U (laidTo dx dy W J I P Q) ∧ Fr (fun k => k = g) w0 wr) (fun i _ => W - (intOf i).toNat)
      case atStart => exact ⟨0, Nat.zero_le _, rfl, HRo.out, HFr.out⟩
      case round =>
        obtain ⟨I, hI, rfl, hrow, hfr⟩ := hrel
        have HRi : Hid (RowAt wr g cg V U (laidTo dx dy W J I P Q)) := hrow
        have HFi : Hid (Fr (fun k => k = g) w0 wr) := hfr
        clear c0 c1 c2 d0 d1 d2
        obtain ⟨⟨c0, c1, c2⟩, d0, d1, d2⟩ := HC.out _ hfr
        clear hrow hfr
        by_cases hIW : I < W
        · have hdI : decide (I < W) = true := decide_eq_true hIW
          have hw1 : IntKind.i64.wrap ((dx : Int) + (I : Int)) = (dx : Int) + (I : Int) := by rw [IntKind.wrap_i64]; omega
          have hw2 : IntKind.i64.wrap ((dy : Int) + (J : Int)) = (dy : Int) + (J : Int) := by rw [IntKind.wrap_i64]; omega
          have hd5 : decide (0 ≤ (dx : Int) + (I : Int)) = true := decide_eq_true (by omega)
          have hd6 : decide ((dx : Int) + (I : Int) < (V : Int)) = true := decide_eq_true (by omega)
          have hd7 : decide (0 ≤ (dy : Int) + (J : Int)) = true := decide_eq_true (by omega)
          have hd8 : decide ((dy : Int) + (J : Int) < (U : Int)) = true := decide_eq_true (by omega)
          have HG1 : Hid (∀ w', Fr (fun _ => False) wr w' → Calls Try.prog 24 #[.agg #[.int .i64 V, .int .i64 U, .slice (some ⟨g, 0, none⟩) N cg], .int .i64 ((dx : Int) + (I : Int)), .int .i64 ((dy : Int) + (J : Int))] w' fun e w'' => e = .returned (.int .i64 ((laidTo dx dy W J I P Q (dx + I) (dy + J)).toNat : Nat)) ∧ Fr (fun _ => False) w' w'') := fun w' hf => by
            have h1 := HB.out
            have h2 := (HRi.out.kept hf (fun h => h)).seen (size_facts h1.1 h1.2.1 h1.2.2.1).2.2
            rw [HN.out]
            exact zget_in V U _ (laidTo dx dy W J I P Q) (dx + I) (dy + J) w' h2 h1.1 h1.2.1 h1.2.2.1 (by omega) (by omega)
          have HG2 : Hid (∀ w', Fr (fun _ => False) wr w' → Calls Try.prog 24 #[.agg #[.int .i64 W, .int .i64 H, .slice ao n cap], .int .i64 I, .int .i64 J] w' fun e w'' => e = .returned (.int .i64 ((P I J).toNat : Nat)) ∧ Fr (fun _ => False) w' w'') := fun w' hf => by
            have h1 := HS.out _ ((HA.out.mono (fun _ _ h => h.elim)).trans (HFi.out.trans hf (fun _ _ h => h.elim)) (fun _ _ h => h))
            exact zget_in W H _ P I J w' h1.seen h1.h1 h1.h2 h1.h3 hIW hJH
          have HD : Hid (∀ w' : World, Calls Try.prog 54 #[.int .i64 4, .int .i64 ((laidTo dx dy W J I P Q (dx + I) (dy + J)).toNat : Nat), .int .i64 ((P I J).toNat : Nat)] w' fun e w'' => e = .returned (.int .i64 ((P I J).toNat : Nat)) ∧ w'' = w') := fun w' => by
            have h := do_any 4 (laidTo dx dy W J I P Q (dx + I) (dy + J)) (P I J) w' (by omega)
            exact h
          have HPu : Hid (∀ w', Fr (fun _ => False) wr w' → Calls Try.prog 53 #[.agg #[.int .i64 V, .int .i64 U, .slice (some ⟨g, 0, none⟩) N cg], .int .i64 ((dx : Int) + (I : Int)), .int .i64 ((dy : Int) + (J : Int)), .int .i64 ((P I J).toNat : Nat)] w' fun e w'' => e = .returned (.tuple #[]) ∧ RowAt w'' g cg V U (laidTo dx dy W J (I + 1) P Q) ∧ Fr (fun k => k = g) w' w'') := fun w' hf => by
            have h1 := HB.out
            rw [HN.out, laidTo_next P Q hIW]
            exact zput_any V U g cg (laidTo dx dy W J I P Q) (dx + I) (dy + J) (P I J) w' (HRi.out.kept hf (fun h => h)) h1.1 h1.2.1 h1.2.2.1 (by omega) (by omega)
          generalize (laidTo dx dy W J I P Q (dx + I) (dy + J)).toNat = pn at *
          generalize (P I J).toNat = qn at *
          have HCI : Hid (∀ w', Fr (fun k => k = g) wr w' → (w'.cell? ⟨w.heap.size, 0, none⟩ = some (.int .i64 V) ∧ w'.cell? ⟨w.heap.size, 1, none⟩ = some (.int .i64 U) ∧ w'.cell? ⟨w.heap.size, 2, none⟩ = some (.slice (some ⟨g, 0, none⟩) N cg)) ∧ w'.cell? ⟨w.heap.size + 1, 0, none⟩ = some (.int .i64 W) ∧ w'.cell? ⟨w.heap.size + 1, 1, none⟩ = some (.int .i64 H) ∧ w'.cell? ⟨w.heap.size + 1, 2, none⟩ = some (.slice ao n cap)) := fun w' hf => HC.out _ (HFi.out.trans hf (fun _ _ h => h))
          go_wp2_with fail
          clear hd1 hd2 hd3 hd4 hn1 hn2 hdJ hdI hd5 hd6 hd7 hd8
          go_region_held3 (fun w' => w'.cell? ⟨w.heap.size, 0, none⟩ = some (.int .i64 V) ∧ w'.cell? ⟨w.heap.size, 1, none⟩ = some (.int .i64 U) ∧ w'.cell? ⟨w.heap.size, 2, none⟩ = some (.slice (some ⟨g, 0, none⟩) N cg) ∧ w'.cell? ⟨w.heap.size + 1, 0, none⟩ = some (.int .i64 W) ∧ w'.cell? ⟨w.heap.size + 1, 1, none⟩ = some (.int .i64 H) ∧ w'.cell? ⟨w.heap.size + 1, 2, none⟩ = some (.slice ao n cap)) (exact (fun h => ⟨h.1.1, h.1.2.1, h.1.2.2, h.2⟩) (HCI.out _ (by repeat (first | with_reducible exact Fr.refl _ _ | with_reducible refine Fr.drew ?_ | with_reducible refine Fr.trans ?_ hf9 (fun _ _ hh => hh) | with_reducible refine Fr.trans ?_ hf8 (fun _ _ hh => hh.elim) | with_reducible refine Fr.trans ?_ hf7 (fun _ _ hh => hh.elim))))) (first | (go_at_call 24; first | (with_reducible refine (HG1.out _ (by repeat (first | with_reducible exact Fr.refl _ _ | with_reducible refine Fr.drew ?_ | with_reducible refine Fr.trans ?_ hf8 (fun _ _ hh => hh)))).mono ?_; rintro e w7 ⟨rfl, hf7⟩) | (with_reducible refine (HG2.out _ (by repeat (first | with_reducible exact Fr.refl _ _ | with_reducible refine Fr.drew ?_ | with_reducible refine Fr.trans ?_ hf7 (fun _ _ hh => hh)))).mono ?_; rintro e w8 ⟨rfl, hf8⟩)) | (go_at_call 54; refine (HD.out _).mono ?_; rintro e wd ⟨rfl, rfl⟩) | (go_at_call 53; refine (HPu.out _ (by repeat (first | with_reducible exact Fr.refl _ _ | with_reducible refine Fr.drew ?_ | with_reducible refine Fr.trans ?_ hf8 (fun _ _ hh => hh) | with_reducible refine Fr.trans ?_ hf7 (fun _ _ hh => hh)))).mono ?_; rintro e w9 ⟨rfl, hr9, hf9⟩))
          all_goals go_wp2_with fail
          all_goals go_roundw
          all_goals first
            | (refine ⟨I + 1, by omega, congrArg (Value.int .i64) (by omega), hr9, HFi.out.trans ?_ (fun _ _ hh => hh)⟩; repeat (first | with_reducible exact Fr.refl _ _ | with_reducible refine Fr.drew ?_ | with_reducible refine Fr.trans ?_ hf9 (fun _ _ hh => hh) | with_reducible refine Fr.trans ?_ hf8 (fun _ _ hh => hh.elim) | with_reducible refine Fr.trans ?_ hf7 (fun _ _ hh => hh.elim)))
            | (simp [intOf]; omega)
        · obtain rfl : I = W := by omega
          have hdI : decide (I < I) = false := decide_eq_false (by omega)
          go_wp2_with fail
          go_roundw
          case rel => exact ⟨J + 1, by omega, congrArg (Value.int .i64) (by omega), by rw [← laidTo_row]; exact HRi.out, HFi.out⟩
          case measure => simp [intOf]; omega
    · obtain rfl : H = J := by omega
      have hdJ : decide (H < H) = false := decide_eq_false (by omega)
      go_wp2_with fail
      go_end0
      exact ⟨rfl, HRo.out, (HA.out.mono (fun _ _ h => h.elim)).trans HFr.out (fun _ _ h => h)⟩

end Go.Proofs.Ytgpciopoionmeaa
