/- 'EqMatching' of two that are alike. -/
import Derived.Test.YtodgdbbhllejkaaKEb
namespace Go.Proofs.Ytodgdbbhllejkaa
open Go.RowKit

set_option maxRecDepth 100000 in
set_option maxHeartbeats 2000000 in
theorem eqMatching_same (a1 a2 b1 b2 : Option Addr) (n m ca1 ca2 cb1 cb2 : Nat) (C : List Nat) (A B : Nat → Bp) (w : World) (h1 : SeenI w (.slice a1 n ca1) C) (h2 : SeenI w (.slice b1 n cb1) C) (hm : m ≤ 1048576) (ha : BmRow w a2 m A) (hb : BmRow w b2 m B) (he : ∀ j, j < m → (A j).x = (B j).x ∧ (A j).y = (B j).y ∧ (A j).l = (B j).l) :
    Calls Try.prog 15 #[.agg #[.slice a1 n ca1, .slice a2 m ca2], .agg #[.slice b1 n cb1, .slice b2 m cb2]] w fun e w' => e = .returned (.bool true) ∧ Fr (fun _ => False) w w' := by
  have HI : Hid (∀ w', Fr (fun _ => False) w w' → Calls Try.prog 21 #[.slice a1 n ca1, .slice b1 n cb1] w' fun e w'' => e = .returned (.bool true) ∧ Fr (fun _ => False) w' w'') := fun w' f => by
    refine (eqInts_any _ _ C C w' (h1.kept f) (h2.kept f)).mono ?_
    rintro e w'' ⟨he, hw⟩
    exact ⟨by rw [he, decide_eq_true rfl], hw⟩
  have HE : Hid (∀ w', Fr (fun _ => False) w w' → Calls Try.prog 18 #[.slice a2 m ca2, .slice b2 m cb2] w' fun e w'' => e = .returned (.bool true) ∧ Fr (fun _ => False) w' w'') := fun w' f => eqBitmaps_same a2 b2 m ca2 cb2 A B w' hm (ha.kept f) (hb.kept f) he
  have HA : Hid (Fr (fun _ => False) w ((w.alloc (.cells #[.slice a1 n ca1, .slice a2 m ca2] 33)).alloc (.cells #[.slice b1 n cb1, .slice b2 m cb2] 33))) := ((Fr.refl _ _).alloc _).alloc _
  have HS : Hid (∀ w', Fr (fun _ => False) ((w.alloc (.cells #[.slice a1 n ca1, .slice a2 m ca2] 33)).alloc (.cells #[.slice b1 n cb1, .slice b2 m cb2] 33)) w' → (w'.cell? ⟨w.heap.size, 0, none⟩ = some (.slice a1 n ca1) ∧ w'.cell? ⟨w.heap.size, 1, none⟩ = some (.slice a2 m ca2)) ∧ w'.cell? ⟨w.heap.size + 1, 0, none⟩ = some (.slice b1 n cb1) ∧ w'.cell? ⟨w.heap.size + 1, 1, none⟩ = some (.slice b2 m cb2)) := fun w' f => by
    obtain ⟨p0, p1, -⟩ := two_cells (blkOld f (blkUp (heap_alloc_new w (.cells #[.slice a1 n ca1, .slice a2 m ca2] 33)) _))
    have hb := heap_alloc_new (w.alloc (.cells #[.slice a1 n ca1, .slice a2 m ca2] 33)) (.cells #[.slice b1 n cb1, .slice b2 m cb2] 33)
    rw [World.size_alloc] at hb
    obtain ⟨q0, q1, -⟩ := two_cells (blkOld f hb)
    exact ⟨⟨p0, p1⟩, q0, q1⟩
  clear h1 h2 ha hb he
  obtain ⟨⟨p0, p1⟩, q0, q1⟩ := HS.out _ (Fr.refl _ _)
  go_enter Try.func15, Try.ntmps15
  go_wp2_with fail
  generalize (w.alloc (.cells #[.slice a1 n ca1, .slice a2 m ca2] 33)).alloc (.cells #[.slice b1 n cb1, .slice b2 m cb2] 33) = w0 at *
  refine (HI.out _ HA.out).mono ?_
  rintro e w2 ⟨rfl, hf2⟩
  have HF2 : Hid (Fr (fun _ => False) w w2) := HA.out.trans hf2 (fun _ _ h => h)
  clear p0 p1 q0 q1
  obtain ⟨⟨p0, p1⟩, q0, q1⟩ := HS.out _ hf2
  clear hf2
  go_wp2_with fail
  refine (HE.out _ HF2.out).mono ?_
  rintro e w3 ⟨rfl, hf3⟩
  have HF3 : Hid (Fr (fun _ => False) w w3) := HF2.out.trans hf3 (fun _ _ h => h)
  clear hf3
  go_wp2_with fail
  go_ret
  exact ⟨rfl, HF3.out⟩
end Go.Proofs.Ytodgdbbhllejkaa
