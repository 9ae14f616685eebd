/- 'CopyBitmap', whatever it is handed: nothing, too. -/
import Derived.Test.YtodgdbbhllejkaaKCy
import Derived.Deep.RegionHeld3
import Derived.Deep.RegionLaw
import Derived.Deep.AppendLies
namespace Go.Proofs.Ytodgdbbhllejkaa
open Go.RowKit



set_option maxRecDepth 100000 in
set_option maxHeartbeats 4000000 in
theorem copy_none1 (x y : Int) (cap : Nat) (w : World) :
    Calls Try.prog 27 #[.agg #[.int .i64 x, .int .i64 y, .slice none 0 cap]] w fun e w' => e = .returned (.agg #[.int .i64 x, .int .i64 y, .slice none 0 0]) ∧ Fr (fun _ => False) w w' := by
  obtain ⟨i0, hi, hz0, hz1, hz2⟩ := info_parts Try.infoUw
  have HA0 : Hid (Fr (fun _ => False) w ((w.alloc (.cells #[.int .i64 x, .int .i64 y, .slice none 0 cap] 48)).alloc (.cells #[.int .i64 0, .int .i64 0, .slice none 0 0] 48))) := ((Fr.refl _ _).alloc _).alloc _
  have HB1 : Hid (∀ w', Fr (fun _ => False) ((w.alloc (.cells #[.int .i64 x, .int .i64 y, .slice none 0 cap] 48)).alloc (.cells #[.int .i64 0, .int .i64 0, .slice none 0 0] 48)) w' → w'.heap[w.heap.size]? = some (.cells #[.int .i64 x, .int .i64 y, .slice none 0 cap] 48 (0, 0)) ∧ w'.heap[w.heap.size + 1]? = some (.cells #[.int .i64 0, .int .i64 0, .slice none 0 0] 48 (0, 0))) := fun w' hf =>
    ⟨blkOld hf (blkUp (heap_alloc_new _ _) _), blkOld hf (by have := heap_alloc_new (w.alloc (.cells #[.int .i64 x, .int .i64 y, .slice none 0 cap] 48)) (.cells #[.int .i64 0, .int .i64 0, .slice none 0 0] 48); rwa [World.size_alloc] at this)⟩
  go_enter Try.func27, Try.ntmps27
  go_wp2_with fail
  generalize hw0 : (w.alloc (.cells #[.int .i64 x, .int .i64 y, .slice none 0 cap] 48)).alloc (.cells #[.int .i64 0, .int .i64 0, .slice none 0 0] 48) = w0 at *
  clear hw0
  obtain ⟨hb1, hb2⟩ := HB1.out w0 (Fr.refl _ _)
  have HKB : Hid (w0.heap[w.heap.size + 1]? = some (.cells #[.int .i64 0, .int .i64 0, .slice none 0 0] 48 (0, 0))) := hb2
  obtain ⟨c0, c1, c2, _⟩ := cell_of_three hb1
  obtain ⟨d0, d1, d2, df⟩ := cell_of_three hb2
  have z0 := df 0
  have z1 := df 1
  have z2 := df 2
  have HFD : Hid (Fr (fun _ => False) w w0) := HA0.out
  clear hb1 hb2 df
  go_region_law (fail)
  all_goals
    go_wp2_with fail
    have hb5 := set3_cells HKB.out (.int .i64 x) (.int .i64 y) (.slice none 0 0)
    have HF : Hid (Fr (fun _ => False) w (((w0.setCell ⟨w.heap.size + 1, 0, none⟩ (.int .i64 x)).setCell ⟨w.heap.size + 1, 1, none⟩ (.int .i64 y)).setCell ⟨w.heap.size + 1, 2, none⟩ (.slice none 0 0))) := ((HFD.out.setCell (p := ⟨w.heap.size + 1, 0, none⟩) (fun h => by have : w.heap.size + 1 < w.heap.size := h; omega) _).setCell (p := ⟨w.heap.size + 1, 1, none⟩) (fun h => by have : w.heap.size + 1 < w.heap.size := h; omega) _).setCell (p := ⟨w.heap.size + 1, 2, none⟩) (fun h => by have : w.heap.size + 1 < w.heap.size := h; omega) _
    generalize (((w0.setCell ⟨w.heap.size + 1, 0, none⟩ (.int .i64 x)).setCell ⟨w.heap.size + 1, 1, none⟩ (.int .i64 y)).setCell ⟨w.heap.size + 1, 2, none⟩ (.slice none 0 0)) = w5 at *
    obtain ⟨m0, m1, m2, _⟩ := cell_of_three hb5
    refine bodyPost_ret (v := .agg #[.int .i64 x, .int .i64 y, .slice none 0 0]) (by simp [results, Try.results27, go_sem, m0, m1, m2]) rfl ?_
    exact ⟨rfl, HF.out.drew⟩

set_option maxRecDepth 100000 in
set_option maxHeartbeats 4000000 in
theorem copy_none2 (x y : Int) (a : Addr) (cap : Nat) (w : World) :
    Calls Try.prog 27 #[.agg #[.int .i64 x, .int .i64 y, .slice (some a) 0 cap]] w fun e w' => e = .returned (.agg #[.int .i64 x, .int .i64 y, .slice none 0 0]) ∧ Fr (fun _ => False) w w' := by
  obtain ⟨i0, hi, hz0, hz1, hz2⟩ := info_parts Try.infoUw
  have HA0 : Hid (Fr (fun _ => False) w ((w.alloc (.cells #[.int .i64 x, .int .i64 y, .slice (some a) 0 cap] 48)).alloc (.cells #[.int .i64 0, .int .i64 0, .slice none 0 0] 48))) := ((Fr.refl _ _).alloc _).alloc _
  have HB1 : Hid (∀ w', Fr (fun _ => False) ((w.alloc (.cells #[.int .i64 x, .int .i64 y, .slice (some a) 0 cap] 48)).alloc (.cells #[.int .i64 0, .int .i64 0, .slice none 0 0] 48)) w' → w'.heap[w.heap.size]? = some (.cells #[.int .i64 x, .int .i64 y, .slice (some a) 0 cap] 48 (0, 0)) ∧ w'.heap[w.heap.size + 1]? = some (.cells #[.int .i64 0, .int .i64 0, .slice none 0 0] 48 (0, 0))) := fun w' hf =>
    ⟨blkOld hf (blkUp (heap_alloc_new _ _) _), blkOld hf (by have := heap_alloc_new (w.alloc (.cells #[.int .i64 x, .int .i64 y, .slice (some a) 0 cap] 48)) (.cells #[.int .i64 0, .int .i64 0, .slice none 0 0] 48); rwa [World.size_alloc] at this)⟩
  go_enter Try.func27, Try.ntmps27
  go_wp2_with fail
  generalize hw0 : (w.alloc (.cells #[.int .i64 x, .int .i64 y, .slice (some a) 0 cap] 48)).alloc (.cells #[.int .i64 0, .int .i64 0, .slice none 0 0] 48) = w0 at *
  clear hw0
  obtain ⟨hb1, hb2⟩ := HB1.out w0 (Fr.refl _ _)
  have HKB : Hid (w0.heap[w.heap.size + 1]? = some (.cells #[.int .i64 0, .int .i64 0, .slice none 0 0] 48 (0, 0))) := hb2
  obtain ⟨c0, c1, c2, _⟩ := cell_of_three hb1
  obtain ⟨d0, d1, d2, df⟩ := cell_of_three hb2
  have z0 := df 0
  have z1 := df 1
  have z2 := df 2
  have HFD : Hid (Fr (fun _ => False) w w0) := HA0.out
  clear hb1 hb2 df
  go_region_law (fail)
  all_goals
    go_wp2_with fail
    have hb5 := set3_cells HKB.out (.int .i64 x) (.int .i64 y) (.slice none 0 0)
    have HF : Hid (Fr (fun _ => False) w (((w0.setCell ⟨w.heap.size + 1, 0, none⟩ (.int .i64 x)).setCell ⟨w.heap.size + 1, 1, none⟩ (.int .i64 y)).setCell ⟨w.heap.size + 1, 2, none⟩ (.slice none 0 0))) := ((HFD.out.setCell (p := ⟨w.heap.size + 1, 0, none⟩) (fun h => by have : w.heap.size + 1 < w.heap.size := h; omega) _).setCell (p := ⟨w.heap.size + 1, 1, none⟩) (fun h => by have : w.heap.size + 1 < w.heap.size := h; omega) _).setCell (p := ⟨w.heap.size + 1, 2, none⟩) (fun h => by have : w.heap.size + 1 < w.heap.size := h; omega) _
    generalize (((w0.setCell ⟨w.heap.size + 1, 0, none⟩ (.int .i64 x)).setCell ⟨w.heap.size + 1, 1, none⟩ (.int .i64 y)).setCell ⟨w.heap.size + 1, 2, none⟩ (.slice none 0 0)) = w5 at *
    obtain ⟨m0, m1, m2, _⟩ := cell_of_three hb5
    refine bodyPost_ret (v := .agg #[.int .i64 x, .int .i64 y, .slice none 0 0]) (by simp [results, Try.results27, go_sem, m0, m1, m2]) rfl ?_
    exact ⟨rfl, HF.out.drew⟩

theorem copy_bp (x y : Int) (v : Value) (l : List Nat) (w : World) (hs : Seen w v l) (hl : l.length ≤ 1048576) :
    Calls Try.prog 27 #[.agg #[.int .i64 x, .int .i64 y, v]] w fun e w' => ∃ u, e = .returned (.agg #[.int .i64 x, .int .i64 y, u]) ∧ w'.ownsRow w.heap.size 23 1 u l.length (wordCells l) ∧ Fr (fun _ => False) w w' := by
  obtain ⟨ao, cap, rfl, _, hc⟩ := hs
  rcases Nat.eq_zero_or_pos l.length with h0 | h0
  · have hl0 : l = [] := List.eq_nil_of_length_eq_zero h0
    subst hl0
    cases ao with
    | none =>
      refine (copy_none1 x y cap w).mono ?_
      rintro e w' ⟨he, hf⟩
      exact ⟨.slice none 0 0, he, World.ownsRow_nil _ _ _ _, hf⟩
    | some a =>
      refine (copy_none2 x y a cap w).mono ?_
      rintro e w' ⟨he, hf⟩
      exact ⟨.slice none 0 0, he, World.ownsRow_nil _ _ _ _, hf⟩
  · obtain ⟨b, off, rfl, hcc⟩ := hc (fun e => by rw [e] at h0; exact absurd h0 (Nat.lt_irrefl _))
    refine (copy_some x y b off cap l w h0 hl hcc).mono ?_
    rintro e w' ⟨g, cap', he, ho, hf, hg⟩
    exact ⟨_, he, ownsRow_base ho (fun k hk => by simp only [Value.ownBlock, Option.some.injEq] at hk; omega), hf⟩
end Go.Proofs.Ytodgdbbhllejkaa
