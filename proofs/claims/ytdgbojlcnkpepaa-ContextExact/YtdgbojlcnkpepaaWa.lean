/- 'wakes'. -/
import Derived.Test.YtdgbojlcnkpepaaRo
import Derived.BigQuiet
namespace Go.Proofs.Ytdgbojlcnkpepaa
open Go.RowKit

set_option maxRecDepth 100000 in
set_option maxHeartbeats 2000000 in
theorem eqInts_same (a b n ca cb : Nat) (f : Nat → Nat) (w : World) (hn : n ≤ 1048576) (h1 : ∀ j, j < n → w.cell? ⟨a, j, none⟩ = some (.int .i64 (f j : Nat))) (h2 : ∀ j, j < n → w.cell? ⟨b, j, none⟩ = some (.int .i64 (f j : Nat))) :
    Calls Try.prog 30 #[.slice (some ⟨a, 0, none⟩) n ca, .slice (some ⟨b, 0, none⟩) n cb] w fun e w' => e = .returned (.bool true) ∧ Fr (fun _ => False) w w' := by
  have H1 : Hid (∀ j, j < n → w.cell? ⟨a, j, none⟩ = some (.int .i64 (f j : Nat))) := h1
  have H2 : Hid (∀ j, j < n → w.cell? ⟨b, j, none⟩ = some (.int .i64 (f j : Nat))) := h2
  have ht : ((n : Int) != (n : Int)) = false := by simp
  clear h1 h2
  go_enter Try.func30, Try.ntmps30
  go_wp2_with fail
  go_loopw [5] (fun i wr => ∃ (k q : Nat), k ≤ n ∧ i = .int .i64 k ∧ wr = w.drewN q) (fun i _ => n - (intOf i).toNat)
  case atStart => exact ⟨0, 0, Nat.zero_le _, rfl, rfl⟩
  case round =>
    obtain ⟨k, q, hk, rfl, rfl⟩ := hrel
    by_cases hlt : k < n
    · have c1 := H1.out k hlt
      have c2 := H2.out k hlt
      generalize f k = x at *
      have hne : ((x : Int) != (x : Int)) = false := by simp
      go_wp2_with fail
      go_quiet (fail)
      go_wp2_with fail
      go_roundw
      case rel => exact ⟨k + 1, _, by omega, congrArg (Value.int .i64) (by omega), rfl⟩
      case measure => simp [intOf]; omega
    · obtain rfl : k = n := by omega
      go_wp2_with fail
      go_ret
      exact ⟨rfl, (Fr.refl _ _).drewN _⟩

def wakeP : Nat → Nat → Bool := fun x _ => decide (x = 0)
theorem wake_ctx : ctx (pixI 2 1 wakeP) 2 1 0 = 1 := by decide +kernel
theorem wake_ctx0 : ctx (pixI 2 1 wakeP) 2 0 0 = 0 := by decide +kernel
theorem wake_size : sizeT 0 = 65536 := by decide +kernel
theorem wake_render : render 2 1 wakeP = [9223372036854775808] := by decide +kernel

set_option maxRecDepth 100000 in
set_option maxHeartbeats 2000000 in
theorem wakes_any (w : World) : Calls Try.prog 9 #[] w fun e w' => e = .returned (.bool true) ∧ Fr (fun _ => False) w w' := by
  have HA : Hid (Fr (fun _ => False) w ((w.alloc (.cells #[.int .u64 9223372036854775808] 54)).alloc (.cells #[.int .i64 2, .int .i64 1, .slice (some ⟨w.heap.size, 0, none⟩) 1 1] 24))) := ((Fr.refl _ _).alloc _).alloc _
  have HB0 : Hid (((w.alloc (.cells #[.int .u64 9223372036854775808] 54)).alloc (.cells #[.int .i64 2, .int .i64 1, .slice (some ⟨w.heap.size, 0, none⟩) 1 1] 24)).cell? ⟨w.heap.size, 0, none⟩ = some (.int .u64 9223372036854775808)) := by
    show _ = _
    exact cell_of_one (blkUp (heap_alloc_new w (.cells #[.int .u64 9223372036854775808] 54)) _)
  have HBX : Hid (∀ w', Fr (fun _ => False) ((w.alloc (.cells #[.int .u64 9223372036854775808] 54)).alloc (.cells #[.int .i64 2, .int .i64 1, .slice (some ⟨w.heap.size, 0, none⟩) 1 1] 24)) w' → w'.cell? ⟨w.heap.size + 1, 0, none⟩ = some (.int .i64 2) ∧ w'.cell? ⟨w.heap.size + 1, 1, none⟩ = some (.int .i64 1) ∧ w'.cell? ⟨w.heap.size + 1, 2, none⟩ = some (.slice (some ⟨w.heap.size, 0, none⟩) 1 1)) := fun w' hf => by
    have hB : w'.heap[w.heap.size + 1]? = some (.cells #[.int .i64 2, .int .i64 1, .slice (some ⟨w.heap.size, 0, none⟩) 1 1] 24 (0, 0)) := by
      rw [hf.block _ (by simp) (fun hh => hh)]
      have := heap_alloc_new (w.alloc (.cells #[.int .u64 9223372036854775808] 54)) (.cells #[.int .i64 2, .int .i64 1, .slice (some ⟨w.heap.size, 0, none⟩) 1 1] 24)
      rwa [World.size_alloc] at this
    obtain ⟨c0, c1, c2, _⟩ := cell_of_three hB
    exact ⟨c0, c1, c2⟩
  go_enter Try.func9, Try.ntmps9
  go_wp2_with fail
  generalize ((w.alloc (.cells #[.int .u64 9223372036854775808] 54)).alloc (.cells #[.int .i64 2, .int .i64 1, .slice (some ⟨w.heap.size, 0, none⟩) 1 1] 24)) = w0 at *
  have HBm : Hid (∀ w', Fr (fun _ => False) w0 w' → Bm w' (.slice (some ⟨w.heap.size, 0, none⟩) 1 1) 2 1 wakeP) := fun w' hf => by
    refine Bm.kept (w := w0) ⟨⟨some ⟨w.heap.size, 0, none⟩, 1, by rw [wake_render]; rfl, by rw [wake_render]; decide, fun _ => ⟨w.heap.size, 0, rfl, fun j hj => ?_⟩⟩, fun ao n c e => by cases e; exact ⟨by omega, by unfold maxLen; omega⟩, by omega, by omega, by omega⟩ hf
    rw [wake_render] at hj ⊢
    obtain rfl : j = 0 := by simpa using hj
    exact HB0.out
  have HAt : Hid (∀ w', Fr (fun _ => False) w0 w' → Calls Try.prog 14 #[.agg #[.int .i64 2, .int .i64 1, .slice (some ⟨w.heap.size, 0, none⟩) 1 1], .int .i64 2, .int .i64 1, .int .i64 0] w' fun e w'' => e = .returned (.tuple #[.int .i64 1, .int .i64 0]) ∧ Fr (fun _ => False) w' w'') := fun w' hf => by
    have h := at_ok 2 1 (.slice (some ⟨w.heap.size, 0, none⟩) 1 1) wakeP 2 1 0 w' (HBm.out w' hf) (by omega) (by omega) (by omega)
    rw [wake_ctx] at h
    exact h
  have HRo : Hid (∀ w', Fr (fun _ => False) w0 w' → Calls Try.prog 15 #[.agg #[.int .i64 2, .int .i64 1, .slice (some ⟨w.heap.size, 0, none⟩) 1 1], .int .i64 2, .int .i64 0] w' fun e w'' => (∃ g, e = .returned (.tuple #[.slice (some ⟨g, 0, none⟩) 2 2, .int .i64 0]) ∧ ∀ u, Fr (fun _ => False) w'' u → ∀ j, j < 2 → u.cell? ⟨g, j, none⟩ = some (.int .i64 ((id j : Nat) : Int))) ∧ Fr (fun _ => False) w' w'') := fun w' hf => by
    refine (row_ok 2 1 (.slice (some ⟨w.heap.size, 0, none⟩) 1 1) wakeP 2 0 w' (HBm.out w' hf) (by omega) (by omega)).mono ?_
    rintro e w'' ⟨g, rfl, hr, _, hf2⟩
    refine ⟨⟨g, rfl, fun u hu j hj => ?_⟩, hf2⟩
    have h := (hr.kept hu (fun h => h)).get hj
    rw [h]
    rcases (show j = 0 ∨ j = 1 by omega) with rfl | rfl
    · exact congrArg (fun n : Nat => some (Value.int .i64 n)) wake_ctx0
    · exact congrArg (fun n : Nat => some (Value.int .i64 n)) wake_ctx
  have HSi : Hid (∀ w', Calls Try.prog 10 #[.int .i64 0] w' fun e w'' => e = .returned (.tuple #[.int .i64 65536, .int .i64 0]) ∧ Fr (fun _ => False) w' w'') := fun w' => by
    have h := size_any 0 (by omega) w'
    rw [wake_size] at h
    exact h
  refine (HAt.out _ (Fr.refl _ _)).mono ?_
  rintro e w1 ⟨rfl, hf1⟩
  have HF1 : Hid (Fr (fun _ => False) w0 w1) := hf1
  obtain ⟨c0, c1, c2⟩ := HBX.out _ hf1
  clear hf1
  go_wp2_with fail
  refine (HRo.out _ HF1.out).mono ?_
  rintro e w2 ⟨⟨g, rfl, hg⟩, hf2⟩
  have HF2 : Hid (Fr (fun _ => False) w0 w2) := HF1.out.trans hf2 (fun _ _ h => h)
  have HG : Hid (∀ u, Fr (fun _ => False) w2 u → ∀ j, j < 2 → u.cell? ⟨g, j, none⟩ = some (.int .i64 ((id j : Nat) : Int))) := hg
  clear hg hf2 c0 c1 c2
  go_wp2_with fail
  refine (HSi.out _).mono ?_
  rintro e w3 ⟨rfl, hf3⟩
  have HF3 : Hid (Fr (fun _ => False) w2 w3) := hf3
  clear hf3
  go_wp2_with fail
  refine (eqInts_same g w3.heap.size 2 2 2 id _ (by omega) (HG.out _ (HF3.out.alloc _)) (fun j hj => ?_)).mono ?_
  · have h := heap_alloc_new w3 (.cells #[.int .i64 0, .int .i64 1] 3)
    obtain ⟨h0, h1⟩ := cell_of_two h
    rcases (show j = 0 ∨ j = 1 by omega) with rfl | rfl
    · exact h0
    · exact h1
  rintro e w4 ⟨rfl, hf4⟩
  have HF4 : Hid (Fr (fun _ => False) w0 w4) := ((HF2.out.trans HF3.out (fun _ _ h => h)).alloc _).trans hf4 (fun _ _ h => h)
  clear hf4
  go_wp2_with fail
  go_ret
  exact ⟨rfl, HA.out.trans HF4.out (fun _ _ h => h)⟩

end Go.Proofs.Ytdgbojlcnkpepaa
