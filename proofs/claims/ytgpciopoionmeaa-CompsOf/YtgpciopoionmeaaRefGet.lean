/- The document's own 'Get' of a bitmap that may be. -/
import Derived.Test.YtgpciopoionmeaaCheck
namespace Go.Proofs.Ytgpciopoionmeaa
open Go.RowKit

set_option maxRecDepth 100000 in
set_option maxHeartbeats 1000000 in
theorem zget_in (W H : Nat) (v : Value) (P : Nat → Nat → Bool) (x y : Nat) (w : World) (hv : Seen w v (render W H P)) (h1 : 1 ≤ W) (h2 : 1 ≤ H) (h3 : W * H ≤ 1048576) (hx : x < W) (hy : y < H) :
    Calls Try.prog 24 #[.agg #[.int .i64 W, .int .i64 H, v], .int .i64 x, .int .i64 y] w fun e w' => e = .returned (.int .i64 ((P x y).toNat : Nat)) ∧ Fr (fun _ => False) w w' := by
  obtain ⟨f1, f2, f3⟩ := size_facts h1 h2 h3
  obtain ⟨ao, cap, rfl, hll, hcc⟩ := hv
  rw [length_render] at hcc hll ⊢
  have hj : x / 64 < stride W := by unfold stride; omega
  have hat := at_lt hy hj
  have hne : render W H P ≠ [] := by
    intro e
    have := length_render W H P
    rw [e] at this
    simp only [List.length_nil] at this
    omega
  obtain ⟨b0, off, rfl, hcell⟩ := hcc hne
  have hcw := hcell (y * stride W + x / 64) hat
  rw [render_get P hy hj, Option.getD_some] at hcw
  have hpx := pix_wd (y := y) P hx
  have hlt := wd_lt W P y (x / 64)
  have HWD : Hid (∀ w' : World, Calls Try.prog 44 #[.int .i64 W] w' fun e w'' => e = .returned (.int .i64 (stride W : Nat)) ∧ w'' = w') := fun w' => words_any W w' f1
  have hm1 : (y : Int) * (stride W : Int) = ((y * stride W : Nat) : Int) := by push_cast; rfl
  have HP : Hid (((P x y).toNat : Nat) = (((wd W P y (x / 64)).testBit (63 - x % 64)).toNat : Nat)) := by show _ = _; rw [hpx]
  have HD : Hid (∀ w', Fr (fun _ => False) (w.alloc (.cells #[.int .i64 W, .int .i64 H, .slice (some ⟨b0, off, none⟩) (H * stride W) cap] 25)) w' → w'.cell? ⟨w.heap.size, 0, none⟩ = some (.int .i64 W) ∧ w'.cell? ⟨w.heap.size, 1, none⟩ = some (.int .i64 H) ∧ w'.cell? ⟨w.heap.size, 2, none⟩ = some (.slice (some ⟨b0, off, none⟩) (H * stride W) cap) ∧ w'.cell? ⟨b0, off + (y * stride W + x / 64), none⟩ = some (.int .u64 (wd W P y (x / 64) : Nat))) := fun w' hf => by
    have hB : w'.heap[w.heap.size]? = some (.cells #[.int .i64 W, .int .i64 H, .slice (some ⟨b0, off, none⟩) (H * stride W) cap] 25 (0, 0)) := by
      rw [hf.block _ (by simp) (fun hh => hh)]; exact heap_alloc_new _ _
    obtain ⟨c0, c1, c2, _⟩ := cell_of_three hB
    refine ⟨c0, c1, c2, ?_⟩
    rw [(((Fr.refl (fun _ => False) w).alloc _).trans hf (fun _ _ hh => hh)).cellEq (seen_lt hcw) (fun hh => hh)]
    exact hcw
  clear hcell hcw hcc hpx hne h1 h2 h3
  have hbn := bit_num (wd W P y (x / 64)) (63 - x % 64) hlt
  generalize wd W P y (x / 64) = X at *
  generalize hN : H * stride W = N at *
  generalize hY : y * stride W = Y at *
  clear hN hY
  have g1 : IntKind.i64.wrap (Y : Int) = (Y : Int) := by rw [IntKind.wrap_i64]; omega
  obtain ⟨A, hA⟩ : ∃ A, A = Y + x / 64 := ⟨_, rfl⟩
  rw [← hA] at HD
  have g2 : IntKind.i64.wrap ((Y : Int) + (x : Int) / 64) = (A : Int) := by rw [IntKind.wrap_i64]; omega
  have e1 : (x : Int).tdiv 64 = (x : Int) / 64 := Int.tdiv_eq_ediv_of_nonneg (by omega)
  have e2 : (x : Int).tmod 64 = (x : Int) % 64 := Int.tmod_eq_emod_of_nonneg (by omega)
  have g6 : IntKind.i64.wrap ((x : Int) / 64) = (x : Int) / 64 := by rw [IntKind.wrap_i64]; omega
  have g7 : IntKind.i64.wrap (63 - (x : Int) % 64) = 63 - (x : Int) % 64 := by rw [IntKind.wrap_i64]; omega
  have g3 : (A : Int).toNat = A := by omega
  have g4 : (0 : Int) ≤ (A : Int) := by omega
  have g5 : (A : Int) < (N : Int) := by omega
  clear hA hat
  go_enter Try.func24, Try.ntmps24
  go_wp2_with fail
  go_region_held3 (fun w' => w'.cell? ⟨w.heap.size, 0, none⟩ = some (.int .i64 W) ∧ w'.cell? ⟨w.heap.size, 1, none⟩ = some (.int .i64 H) ∧ w'.cell? ⟨w.heap.size, 2, none⟩ = some (.slice (some ⟨b0, off, none⟩) N cap) ∧ w'.cell? ⟨b0, off + A, none⟩ = some (.int .u64 (X : Nat))) (first | exact HD.out _ ((Fr.refl _ _).drew) | exact HD.out _ ((Fr.refl _ _).drewN _)) (first | (go_at_call 44; refine (HWD.out _).mono ?_; rintro e w4 ⟨rfl, rfl⟩))
  go_wp2_with fail
  go_ret
  refine ⟨congrArg (fun x => Ending.returned (Value.int .i64 x)) ?_, ((Fr.refl _ _).alloc _).drew⟩
  have e3 : min (IntKind.u64.wrap (63 - (x : Int) % 64)).toNat 64 = 63 - x % 64 := by rw [wrapu64]; omega
  rw [e3, HP.out, ← hbn]
  generalize bits BinOp.and IntKind.u64 ((X : Int) / 2 ^ (63 - x % 64)) 1 = z
  rw [IntKind.wrap_i64]
  simp only [wrap64]

set_option maxRecDepth 100000 in
set_option maxHeartbeats 1000000 in
theorem zget_out (W H : Nat) (v : Value) (x y : Int) (w : World) (hv : ∃ ao m c, v = .slice ao m c) (hx : ¬ (0 ≤ x ∧ x < W ∧ 0 ≤ y ∧ y < H)) :
    Calls Try.prog 24 #[.agg #[.int .i64 W, .int .i64 H, v], .int .i64 x, .int .i64 y] w fun e w' => e = .returned (.int .i64 0) ∧ Fr (fun _ => False) w w' := by
  obtain ⟨ao, m, c, rfl⟩ := hv
  by_cases h1 : x < 0
  · go_enter Try.func24, Try.ntmps24
    go_wp2_with fail
    go_ret
    exact ⟨rfl, ((Fr.refl _ _).alloc _)⟩
  · by_cases h2 : y < 0
    · go_enter Try.func24, Try.ntmps24
      go_wp2_with fail
      go_ret
      exact ⟨rfl, ((Fr.refl _ _).alloc _)⟩
    · by_cases h3 : x ≥ W
      · go_enter Try.func24, Try.ntmps24
        go_wp2_with fail
        go_ret
        exact ⟨rfl, ((Fr.refl _ _).alloc _)⟩
      · have h4 : y ≥ H := by omega
        go_enter Try.func24, Try.ntmps24
        go_wp2_with fail
        go_ret
        exact ⟨rfl, ((Fr.refl _ _).alloc _)⟩

end Go.Proofs.Ytgpciopoionmeaa
