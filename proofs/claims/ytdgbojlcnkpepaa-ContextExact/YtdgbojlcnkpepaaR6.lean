/- The document's own contexts: May, Places, Size. -/
import Derived.Test.YtdgbojlcnkpepaaR6m
import Derived.Test.YtdgbojlcnkpepaaOn
namespace Go.Proofs.Ytdgbojlcnkpepaa
open Go.RowKit

theorem may6_any (t : Int) (w : World) (bb : Bool) (hbb : bb = decide (0 ≤ t ∧ t ≤ 3)) :
    Calls Try.prog 11 #[.int .i64 t] w fun e w' => e = .returned (.bool bb) ∧ w' = w := by
  by_cases h1 : 0 ≤ t
  · by_cases h2 : t ≤ 3
    · have hbt : bb = true := by rw [hbb]; exact decide_eq_true ⟨h1, h2⟩
      subst hbt
      have hd1 : decide (0 ≤ t) = true := decide_eq_true h1
      have hd2 : decide (t ≤ 3) = true := decide_eq_true h2
      clear hbb h1 h2
      go_enter Try.func11, Try.ntmps11
      go_wp2_with fail
      go_ret
      exact ⟨rfl, rfl⟩
    · have hbt : bb = false := by rw [hbb]; exact decide_eq_false (by omega)
      subst hbt
      have hd1 : decide (0 ≤ t) = true := decide_eq_true h1
      have hd2 : decide (t ≤ 3) = false := decide_eq_false h2
      clear hbb h1 h2
      go_enter Try.func11, Try.ntmps11
      go_wp2_with fail
      go_ret
      exact ⟨rfl, rfl⟩
  · have hbt : bb = false := by rw [hbb]; exact decide_eq_false (by omega)
    subst hbt
    have hd1 : decide (0 ≤ t) = false := decide_eq_false h1
    clear hbb h1
    go_enter Try.func11, Try.ntmps11
    go_wp2_with fail
    go_ret
    exact ⟨rfl, rfl⟩

/-- Places in memory. -/
def PlAt (w : World) (g t : Nat) : Prop := ∀ j, j < (plc t).length → w.cell? ⟨g, j, none⟩ = some (.int .i64 ((plc t)[j]?.getD 0))
theorem PlAt.kept {S : Nat → Prop} {w w' : World} {g t : Nat} (h : PlAt w g t) (f : Fr S w w') (h1 : ¬ S g) : PlAt w' g t := fun j hj => by
  rw [f.cell (seen_lt (h j hj)) h1]; exact h j hj
theorem plAt_new (w : World) (t : Nat) : PlAt (w.alloc (.cells ((plc t).map (Value.int .i64)).toArray 3)) w.heap.size t := fun j hj => by
  have h := heap_alloc_new w (.cells ((plc t).map (Value.int .i64)).toArray 3)
  unfold World.cell?
  rw [h]
  simp [hj]

set_option maxRecDepth 100000 in
set_option maxHeartbeats 2000000 in
theorem places0 (w : World) : Calls Try.prog 17 #[.int .i64 0] w fun e w' => e = .returned (.slice (some ⟨w.heap.size, 0, none⟩) 32 32) ∧ w' = w.alloc (.cells ((plc 0).map (Value.int .i64)).toArray 3) := by
  go_enter Try.func17, Try.ntmps17
  go_wp2_with fail
  go_ret
  exact ⟨rfl, rfl⟩
set_option maxRecDepth 100000 in
set_option maxHeartbeats 2000000 in
theorem places1 (w : World) : Calls Try.prog 17 #[.int .i64 1] w fun e w' => e = .returned (.slice (some ⟨w.heap.size, 0, none⟩) 26 26) ∧ w' = w.alloc (.cells ((plc 1).map (Value.int .i64)).toArray 3) := by
  go_enter Try.func17, Try.ntmps17
  go_wp2_with fail
  go_ret
  exact ⟨rfl, rfl⟩
set_option maxRecDepth 100000 in
set_option maxHeartbeats 2000000 in
theorem places2 (w : World) : Calls Try.prog 17 #[.int .i64 2] w fun e w' => e = .returned (.slice (some ⟨w.heap.size, 0, none⟩) 20 20) ∧ w' = w.alloc (.cells ((plc 2).map (Value.int .i64)).toArray 3) := by
  go_enter Try.func17, Try.ntmps17
  go_wp2_with fail
  go_ret
  exact ⟨rfl, rfl⟩
set_option maxRecDepth 100000 in
set_option maxHeartbeats 2000000 in
theorem places3 (w : World) : Calls Try.prog 17 #[.int .i64 3] w fun e w' => e = .returned (.slice (some ⟨w.heap.size, 0, none⟩) 20 20) ∧ w' = w.alloc (.cells ((plc 3).map (Value.int .i64)).toArray 3) := by
  go_enter Try.func17, Try.ntmps17
  go_wp2_with fail
  go_ret
  exact ⟨rfl, rfl⟩
theorem places_any (t : Nat) (ht : t < 4) (w : World) : Calls Try.prog 17 #[.int .i64 t] w fun e w' => e = .returned (.slice (some ⟨w.heap.size, 0, none⟩) (2 * bitsK t 3) (2 * bitsK t 3)) ∧ PlAt w' w.heap.size t ∧ Fr (fun _ => False) w w' := by
  match t, ht with
  | 0, _ => exact (places0 w).mono fun e w' ⟨h1, h2⟩ => ⟨h1, h2 ▸ plAt_new w 0, h2 ▸ (Fr.refl _ _).alloc _⟩
  | 1, _ => exact (places1 w).mono fun e w' ⟨h1, h2⟩ => ⟨h1, h2 ▸ plAt_new w 1, h2 ▸ (Fr.refl _ _).alloc _⟩
  | 2, _ => exact (places2 w).mono fun e w' ⟨h1, h2⟩ => ⟨h1, h2 ▸ plAt_new w 2, h2 ▸ (Fr.refl _ _).alloc _⟩
  | 3, _ => exact (places3 w).mono fun e w' ⟨h1, h2⟩ => ⟨h1, h2 ▸ plAt_new w 3, h2 ▸ (Fr.refl _ _).alloc _⟩

set_option maxRecDepth 100000 in
set_option maxHeartbeats 2000000 in
theorem size6_any (t : Nat) (ht : t < 4) (w : World) : Calls Try.prog 12 #[.int .i64 t] w fun e w' => e = .returned (.int .i64 (sizeT t : Nat)) ∧ Fr (fun _ => False) w w' := by
  have HP : Hid (∀ w', Calls Try.prog 17 #[.int .i64 t] w' fun e w'' => e = .returned (.slice (some ⟨w'.heap.size, 0, none⟩) (2 * bitsK t 3) (2 * bitsK t 3)) ∧ Fr (fun _ => False) w' w'') := fun w' => (places_any t ht w').mono fun e w'' ⟨h1, _, h3⟩ => ⟨h1, h3⟩
  have hb := bits_le t ht
  rw [show sizeT t = 2 ^ bitsK t 3 from rfl]
  clear ht
  generalize bitsK t 3 = k at *
  have hp : 2 ^ k ≤ 2 ^ 16 := Nat.pow_le_pow_right (by omega) hb
  have hce : ((2 : Int) ^ k) = ((2 ^ k : Nat) : Int) := by rw [Int.natCast_pow]; rfl
  have e1 : (2 * (k : Int)).tdiv 2 = (k : Int) := by rw [Int.tdiv_eq_ediv_of_nonneg (by omega)]; omega
  have e2 : IntKind.i64.wrap (k : Int) = (k : Int) := by rw [IntKind.wrap_i64]; omega
  have e3 : IntKind.u64.wrap (k : Int) = (k : Int) := by rw [IntKind.wrap_u64]; omega
  have e4 : IntKind.i64.wrap (2 ^ k) = 2 ^ k := by
    rw [hce, IntKind.wrap_i64]
    clear hce
    generalize 2 ^ k = Z at *
    omega
  have hmin : min k 64 = k := by omega
  have HCE : Hid (((2 : Int) ^ k) = ((2 ^ k : Nat) : Int)) := hce
  clear hce hp
  go_enter Try.func12, Try.ntmps12
  go_wp2_with fail
  refine (HP.out _).mono ?_
  rintro e w1 ⟨rfl, hf1⟩
  have HF1 : Hid (Fr (fun _ => False) w w1) := hf1
  clear hf1
  go_wp2_with fail
  go_ret
  exact ⟨by rw [← HCE.out]; rfl, HF1.out⟩

end Go.Proofs.Ytdgbojlcnkpepaa
