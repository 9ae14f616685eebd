/- The reference's 'Invert'. -/
import Derived.Test.YtflhbmapikdmhaaDoorXm
import Derived.Test.YtflhbmapikdmhaaDoorZGet
import Derived.Deep.RegionHeld3
namespace Go.Proofs.YtflhbmapikdmhaaDoor
set_option maxRecDepth 100000
open Go.RowKit

set_option linter.unusedSimpArgs false in
set_option maxHeartbeats 40000000 in
theorem rinvert_any (W H g cap : Nat) (P : Nat → Nat → Bool) (w : World) (hr : RowAt w g cap W H P) (h1 : 1 ≤ W) (h2 : 1 ≤ H) (h3 : W * H ≤ 1048576) :
    Calls Tryd.prog 13 #[.agg #[.int .i64 (W : Int), .int .i64 (H : Int), .slice (some ⟨g, 0, none⟩) (H * stride W) cap]] w fun e w' => e = .returned (.tuple #[]) ∧ RowAt w' g cap W H (fun a e => !P a e) ∧ Fr (fun k => k = g) w w' := by
  obtain ⟨f1, f2, f3⟩ := size_facts h1 h2 h3
  have HR : Hid (RowAt w g cap W H P) := hr
  have HB : Hid (1 ≤ W ∧ 1 ≤ H ∧ W * H ≤ 1048576) := ⟨h1, h2, h3⟩
  have HGL : Hid (g < w.heap.size) := hr.lt
  obtain ⟨N, HN⟩ : ∃ N, Hid (N = H * stride W) := ⟨_, rfl⟩
  rw [← HN.out]
  have HA : Hid (Fr (fun _ => False) w (w.alloc (.cells #[.int .i64 (W : Int), .int .i64 (H : Int), .slice (some ⟨g, 0, none⟩) N cap] 39))) := (Fr.refl _ _).alloc _
  have HC : Hid (∀ w', Fr (fun k => k = g) (w.alloc (.cells #[.int .i64 (W : Int), .int .i64 (H : Int), .slice (some ⟨g, 0, none⟩) N cap] 39)) w' → w'.cell? ⟨w.heap.size, 0, none⟩ = some (.int .i64 W) ∧ w'.cell? ⟨w.heap.size, 1, none⟩ = some (.int .i64 H) ∧ w'.cell? ⟨w.heap.size, 2, none⟩ = some (.slice (some ⟨g, 0, none⟩) N cap)) := fun w' hf => by
    have hgl := HGL.out
    have e1 : (w.alloc (.cells #[.int .i64 (W : Int), .int .i64 (H : Int), .slice (some ⟨g, 0, none⟩) N cap] 39)).heap[w.heap.size]? = some (.cells #[.int .i64 (W : Int), .int .i64 (H : Int), .slice (some ⟨g, 0, none⟩) N cap] 39 (0, 0)) := heap_alloc_new _ _
    obtain ⟨a0, a1, a2, _⟩ := cell_of_three ((hf.block _ (lt_of_block e1) (by omega)).trans e1)
    exact ⟨a0, a1, a2⟩
  clear hr h1 h2 h3 f3
  go_enter Tryd.func13, Tryd.ntmps13
  go_wp2_with fail
  generalize (w.alloc (.cells #[.int .i64 (W : Int), .int .i64 (H : Int), .slice (some ⟨g, 0, none⟩) N cap] 39)) = w0 at *
  go_loopw [2, 3] (fun j _ wr => ∃ J : Nat, J ≤ H ∧ j = .int .i64 J ∧ RowAt wr g cap W H (setG (fun a e => !P a e) 0 0 0 (W : Int) 0 (J : Int) 0 P) ∧ Fr (fun k => k = g) w0 wr) (fun j _ _ => H - (intOf j).toNat)
  case atStart => exact ⟨0, Nat.zero_le _, rfl, by rw [show ((0 : Nat) : Int) = 0 from rfl, setG_first]; exact HR.out.kept HA.out (fun h => h), Fr.refl _ _⟩
  case round =>
    obtain ⟨J, hJ, rfl, hrow, hfr⟩ := hrel
    have HRo : Hid (RowAt wr g cap W H (setG (fun a e => !P a e) 0 0 0 (W : Int) 0 (J : Int) 0 P)) := hrow
    have HFr : Hid (Fr (fun k => k = g) w0 wr) := hfr
    obtain ⟨c0, c1, c2⟩ := HC.out _ hfr
    clear hrow hfr
    by_cases hJH : J < H
    · have hdJ : decide (J < H) = true := decide_eq_true hJH
      go_wp2_with fail
      go_loopw [3] (fun i wr => ∃ I : Nat, I ≤ W ∧ i = .int .i64 I ∧ RowAt wr g cap W H (setG (fun a e => !P a e) 0 0 0 (W : Int) 0 (J : Int) (I : Int) P) ∧ Fr (fun k => k = g) w0 wr) (fun i _ => W - (intOf i).toNat)
      case atStart => exact ⟨0, Nat.zero_le _, rfl, HRo.out, HFr.out⟩
      case round =>
        obtain ⟨I, hI, rfl, hrow, hfr⟩ := hrel
        have HRi : Hid (RowAt wr g cap W H (setG (fun a e => !P a e) 0 0 0 (W : Int) 0 (J : Int) (I : Int) P)) := hrow
        have HFi : Hid (Fr (fun k => k = g) w0 wr) := hfr
        clear c0 c1 c2
        obtain ⟨c0, c1, c2⟩ := HC.out _ hfr
        clear hrow hfr
        by_cases hIW : I < W
        · have hdI : decide (I < W) = true := decide_eq_true hIW
          have HG1 : Hid (∀ w', Fr (fun _ => False) wr w' → Calls Tryd.prog 21 #[.agg #[.int .i64 (W : Int), .int .i64 (H : Int), .slice (some ⟨g, 0, none⟩) N cap], .int .i64 (I : Int), .int .i64 (J : Int)] w' fun e w'' => e = .returned (.int .i64 ((P I J).toNat : Nat)) ∧ Fr (fun _ => False) w' w'') := fun w' hf => by
            have h1 := HB.out
            have h2 := (HRi.out.kept hf (fun h => h)).seen (size_facts h1.1 h1.2.1 h1.2.2).2.2
            have h4 := zget_in W H _ (setG (fun a e => !P a e) 0 0 0 (W : Int) 0 (J : Int) (I : Int) P) I J w' h2 h1.1 h1.2.1 h1.2.2 hIW hJH
            rw [setG_at (by omega) (by omega), ← HN.out] at h4
            exact h4
          have HPu : Hid (∀ w', Fr (fun _ => False) wr w' → Calls Tryd.prog 35 #[.agg #[.int .i64 (W : Int), .int .i64 (H : Int), .slice (some ⟨g, 0, none⟩) N cap], .int .i64 (I : Int), .int .i64 (J : Int), .int .i64 (((!P I J).toNat : Nat) : Int)] w' fun e w'' => e = .returned (.tuple #[]) ∧ RowAt w'' g cap W H (setG (fun a e => !P a e) 0 0 0 (W : Int) 0 (J : Int) ((I : Int) + 1) P) ∧ Fr (fun k => k = g) w' w'') := fun w' hf => by
            have h1 := HB.out
            rw [HN.out, setG_next (A0 := I) (E0 := J) (by omega) (by omega) (by omega) (by omega) (by omega)]
            exact zput_any W H g cap (setG (fun a e => !P a e) 0 0 0 (W : Int) 0 (J : Int) (I : Int) P) I J _ w' (HRi.out.kept hf (fun h => h)) h1.1 h1.2.1 h1.2.2 hIW hJH
          have hneg : IntKind.i64.wrap (1 - (((P I J).toNat : Nat) : Int)) = (((!P I J).toNat : Nat) : Int) := by cases P I J <;> rfl
          have hnb : (((P I J).toNat : Nat) : Int) ≤ 1 := by cases P I J <;> decide
          generalize (!P I J).toNat = on at *
          generalize (P I J).toNat = pn at *
          have HCI : Hid (∀ w', Fr (fun k => k = g) wr w' → w'.cell? ⟨w.heap.size, 0, none⟩ = some (.int .i64 W) ∧ w'.cell? ⟨w.heap.size, 1, none⟩ = some (.int .i64 H) ∧ w'.cell? ⟨w.heap.size, 2, none⟩ = some (.slice (some ⟨g, 0, none⟩) N cap)) := fun w' hf => HC.out _ (HFi.out.trans hf (fun _ _ h => h))
          go_wp2_with fail
          clear hdJ hdI
          go_region_held3 (fun w' => w'.cell? ⟨w.heap.size, 0, none⟩ = some (.int .i64 W) ∧ w'.cell? ⟨w.heap.size, 1, none⟩ = some (.int .i64 H) ∧ w'.cell? ⟨w.heap.size, 2, none⟩ = some (.slice (some ⟨g, 0, none⟩) N cap)) (exact HCI.out _ (by repeat (first | with_reducible exact Fr.refl _ _ | with_reducible refine Fr.drew ?_ | with_reducible refine Fr.trans ?_ hf9 (fun _ _ hh => hh) | with_reducible refine Fr.trans ?_ hf7 (fun _ _ hh => hh.elim)))) (first | (go_at_call 21; refine (HG1.out _ (by repeat (first | with_reducible exact Fr.refl _ _ | with_reducible refine Fr.drew ?_))).mono ?_; rintro e w7 ⟨rfl, hf7⟩) | (go_at_call 35; refine (HPu.out _ (by repeat (first | with_reducible exact Fr.refl _ _ | with_reducible refine Fr.drew ?_ | with_reducible refine Fr.trans ?_ hf7 (fun _ _ hh => hh)))).mono ?_; rintro e w9 ⟨rfl, hr9, hf9⟩))
          all_goals go_wp2_with fail
          all_goals go_roundw
          all_goals first
            | (refine ⟨I + 1, by omega, congrArg (Value.int .i64) (by omega), hr9, HFi.out.trans ?_ (fun _ _ hh => hh)⟩; repeat (first | with_reducible exact Fr.refl _ _ | with_reducible refine Fr.drew ?_ | with_reducible refine Fr.trans ?_ hf9 (fun _ _ hh => hh) | with_reducible refine Fr.trans ?_ hf7 (fun _ _ hh => hh.elim)))
            | (simp [intOf]; omega)
        · obtain rfl : I = W := by omega
          have hdI : decide (I < I) = false := decide_eq_false (by omega)
          go_wp2_with fail
          go_roundw
          case rel => exact ⟨J + 1, by omega, congrArg (Value.int .i64) (by omega), by rw [show ((J + 1 : Nat) : Int) = (J : Int) + 1 from by omega, ← setG_row (i := (I : Int)) (by omega)]; exact HRi.out, HFi.out⟩
          case measure => simp [intOf]; omega
    · obtain rfl : H = J := by omega
      have hdJ : decide (H < H) = false := decide_eq_false (by omega)
      go_wp2_with fail
      go_end0
      exact ⟨rfl, HRo.out.pixO (setG_all _ W H P), (HA.out.mono (fun _ _ h => h.elim)).trans HFr.out (fun _ _ h => h)⟩
end Go.Proofs.YtflhbmapikdmhaaDoor
