/- 'isEmpty', 'Touch', and the document's own. -/
import Derived.Test.YtgpciopoionmeaaCp
namespace Go.Proofs.Ytgpciopoionmeaa
open Go.RowKit

set_option maxRecDepth 100000 in
set_option maxHeartbeats 1000000 in
theorem isEmpty_any (a b : Int) (w : World) :
    Calls Try.prog 84 #[.agg #[.int .i64 a, .int .i64 b]] w fun e w' => e = .returned (.bool (decide (b ≤ a))) ∧ Fr (fun _ => False) w w' := by
  go_enter Try.func84, Try.ntmps84
  go_wp2_with fail
  go_ret
  exact ⟨rfl, (Fr.refl _ _).alloc _⟩

def touchB (a1 a2 b1 b2 : Int) : Bool := decide (a1 < a2) && decide (b1 < b2) && decide (a1 ≤ b2) && decide (b1 ≤ a2)
theorem touchB_comm (a1 a2 b1 b2 : Int) : touchB a1 a2 b1 b2 = touchB b1 b2 a1 a2 := by
  unfold touchB
  rw [Bool.eq_iff_iff]
  simp only [Bool.and_eq_true, decide_eq_true_eq]
  omega

theorem cell_of_two {w : World} {b : Nat} {x y : Value} {t : TypeId} (h : w.heap[b]? = some (.cells #[x, y] t (0, 0))) :
    w.cell? ⟨b, 0, none⟩ = some x ∧ w.cell? ⟨b, 1, none⟩ = some y ∧ (∀ j, w.frozen? ⟨b, j, none⟩ = false) := by
  refine ⟨?_, ?_, fun j => ?_⟩ <;> simp [World.cell?, World.frozen?, h]

set_option maxRecDepth 100000 in
set_option maxHeartbeats 1000000 in
theorem touch_any (a1 a2 b1 b2 : Int) (w : World) :
    Calls Try.prog 71 #[.agg #[.int .i64 a1, .int .i64 a2], .agg #[.int .i64 b1, .int .i64 b2]] w fun e w' => e = .returned (.bool (touchB a1 a2 b1 b2)) ∧ Fr (fun _ => False) w w' := by
  have HA : Hid (Fr (fun _ => False) w ((w.alloc (.cells #[.int .i64 a1, .int .i64 a2] 100)).alloc (.cells #[.int .i64 b1, .int .i64 b2] 100))) := ((Fr.refl _ _).alloc _).alloc _
  have HB : Hid (∀ w', Fr (fun _ => False) ((w.alloc (.cells #[.int .i64 a1, .int .i64 a2] 100)).alloc (.cells #[.int .i64 b1, .int .i64 b2] 100)) w' → w'.heap[w.heap.size]? = some (.cells #[.int .i64 a1, .int .i64 a2] 100 (0, 0)) ∧ w'.heap[w.heap.size + 1]? = some (.cells #[.int .i64 b1, .int .i64 b2] 100 (0, 0))) := fun w' hf =>
    ⟨blkOld hf (blkUp (heap_alloc_new _ _) _), blkOld hf (by have := heap_alloc_new (w.alloc (.cells #[.int .i64 a1, .int .i64 a2] 100)) (.cells #[.int .i64 b1, .int .i64 b2] 100); rwa [World.size_alloc] at this)⟩
  by_cases h1 : a1 < a2
  · have d1 : decide (a2 ≤ a1) = false := decide_eq_false (by omega)
    go_enter Try.func71, Try.ntmps71
    go_wp2_with fail
    refine (isEmpty_any a1 a2 _).mono ?_
    rintro e w1 ⟨rfl, hf1⟩
    have HF1 : Hid (Fr (fun _ => False) w w1) := HA.out.trans hf1 (fun _ _ h => h)
    obtain ⟨k1, k2⟩ := HB.out _ hf1
    obtain ⟨c0, c1, _⟩ := cell_of_two k1
    obtain ⟨e0, e1, _⟩ := cell_of_two k2
    have HF0 : Hid (Fr (fun _ => False) ((w.alloc (.cells #[.int .i64 a1, .int .i64 a2] 100)).alloc (.cells #[.int .i64 b1, .int .i64 b2] 100)) w1) := hf1
    clear hf1 k1 k2
    rw [d1]
    go_wp2_with fail
    refine (isEmpty_any b1 b2 _).mono ?_
    rintro e w2 ⟨rfl, hf2⟩
    have HF2 : Hid (Fr (fun _ => False) w w2) := HF1.out.trans hf2 (fun _ _ h => h)
    clear c0 c1 e0 e1
    obtain ⟨k1, k2⟩ := HB.out _ (HF0.out.trans hf2 (fun _ _ h => h))
    obtain ⟨c0, c1, _⟩ := cell_of_two k1
    obtain ⟨e0, e1, _⟩ := cell_of_two k2
    clear hf2 k1 k2
    by_cases h2 : b1 < b2
    · have d2 : decide (b2 ≤ b1) = false := decide_eq_false (by omega)
      rw [d2]
      by_cases h3 : a1 ≤ b2
      · have HR : Hid (touchB a1 a2 b1 b2 = decide (b1 ≤ a2)) := by show _ = _; unfold touchB; simp [h1, h2, h3]
        go_wp2_with fail
        go_ret
        exact ⟨HR.out ▸ rfl, HF2.out⟩
      · have HR : Hid (touchB a1 a2 b1 b2 = false) := by show _ = _; unfold touchB; simp [h3]
        go_wp2_with fail
        go_ret
        exact ⟨HR.out ▸ rfl, HF2.out⟩
    · have d2 : decide (b2 ≤ b1) = true := decide_eq_true (by omega)
      rw [d2]
      have HR : Hid (touchB a1 a2 b1 b2 = false) := by show _ = _; unfold touchB; simp [h2]
      go_wp2_with fail
      go_ret
      exact ⟨HR.out ▸ rfl, HF2.out⟩
  · have d1 : decide (a2 ≤ a1) = true := decide_eq_true (by omega)
    have HR : Hid (touchB a1 a2 b1 b2 = false) := by show _ = _; unfold touchB; simp [h1]
    go_enter Try.func71, Try.ntmps71
    go_wp2_with fail
    refine (isEmpty_any a1 a2 _).mono ?_
    rintro e w1 ⟨rfl, hf1⟩
    have HF1 : Hid (Fr (fun _ => False) w w1) := HA.out.trans hf1 (fun _ _ h => h)
    clear hf1
    rw [d1]
    go_wp2_with fail
    go_ret
    exact ⟨HR.out ▸ rfl, HF1.out⟩

end Go.Proofs.Ytgpciopoionmeaa
