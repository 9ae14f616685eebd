/- Package context: the refusals. -/
import Derived.Test.YtkggdnkmaldmlabKRo
namespace Go.Proofs.Ytkggdnkmaldmlab
open Go.RowKit

set_option maxRecDepth 100000 in
set_option maxHeartbeats 2000000 in
theorem size_bad (t : Int) (w : World) (ht : t < 0 ∨ 4 ≤ t) :
    Calls Try.prog 37 #[.int .i64 t] w fun e w' => e = .returned (.tuple #[.int .i64 0, .int .i64 60]) ∧ Fr (fun _ => False) w w' := by
  have HT : Hid (t < 0 ∨ 4 ≤ t) := ht
  clear ht
  go_enter Try.func37, Try.ntmps37
  go_wp2_with fail
  refine (spansOf_bad t HT.out _).mono ?_
  rintro e w1 ⟨rfl, hf1⟩
  have HF1 : Hid (Fr (fun _ => False) w (w1.alloc (.cells #[.int .i64 0, .int .i64 0, .int .i64 0, .int .i64 0, .int .i64 0, .int .i64 0] 96))) := hf1.alloc _
  clear hf1
  unfold noSpans
  go_wp2_with fail
  go_ret2
  exact ⟨rfl, HF1.out⟩

set_option maxRecDepth 100000 in
set_option maxHeartbeats 2000000 in
theorem at_badT (x y : Int) (v : Value) (l : List Nat) (t : Int) (px py : Int) (w : World) (hv : Seen w v l) (ht : t < 0 ∨ 4 ≤ t) :
    Calls Try.prog 51 #[.agg #[.int .i64 x, .int .i64 y, v], .int .i64 t, .int .i64 px, .int .i64 py] w fun e w' => e = .returned (.tuple #[.int .i64 0, .int .i64 60]) ∧ Fr (fun _ => False) w w' := by
  have HT : Hid (t < 0 ∨ 4 ≤ t) := ht
  obtain ⟨ao, cap, rfl, _, _⟩ := hv
  clear ht
  go_enter Try.func51, Try.ntmps51
  go_wp2_with fail
  refine (spansOf_bad t HT.out _).mono ?_
  rintro e w1 ⟨rfl, hf1⟩
  have HF1 : Hid (Fr (fun _ => False) w (w1.alloc (.cells #[.int .i64 0, .int .i64 0, .int .i64 0, .int .i64 0, .int .i64 0, .int .i64 0] 96))) := (((Fr.refl _ _).alloc _).trans hf1 (fun _ _ h => h)).alloc _
  clear hf1
  unfold noSpans
  go_wp2_with fail
  go_ret2
  exact ⟨rfl, HF1.out⟩

set_option maxRecDepth 100000 in
set_option maxHeartbeats 2000000 in
theorem row_badT (x y : Int) (v : Value) (l : List Nat) (t : Int) (py : Int) (w : World) (hv : Seen w v l) (ht : t < 0 ∨ 4 ≤ t) :
    Calls Try.prog 53 #[.agg #[.int .i64 x, .int .i64 y, v], .int .i64 t, .int .i64 py] w fun e w' => e = .returned (.tuple #[.slice none 0 0, .int .i64 60]) ∧ Fr (fun _ => False) w w' := by
  have HT : Hid (t < 0 ∨ 4 ≤ t) := ht
  obtain ⟨ao, cap, rfl, _, _⟩ := hv
  clear ht
  go_enter Try.func53, Try.ntmps53
  go_wp2_with fail
  refine (spansOf_bad t HT.out _).mono ?_
  rintro e w1 ⟨rfl, hf1⟩
  have HF1 : Hid (Fr (fun _ => False) w (w1.alloc (.cells #[.int .i64 0, .int .i64 0, .int .i64 0, .int .i64 0, .int .i64 0, .int .i64 0] 96))) := (((Fr.refl _ _).alloc _).trans hf1 (fun _ _ h => h)).alloc _
  clear hf1
  unfold noSpans
  go_wp2_with fail
  go_ret2
  exact ⟨rfl, HF1.out⟩

set_option maxRecDepth 100000 in
set_option maxHeartbeats 2000000 in
theorem at_badF (x y : Int) (v : Value) (l : List Nat) (t : Nat) (px py : Int) (w : World) (hx : -9223372036854775808 ≤ x ∧ x ≤ 9223372036854775807) (hy : -9223372036854775808 ≤ y ∧ y ≤ 9223372036854775807) (hv : Seen w v l) (hlt : ∀ j : Nat, l[j]?.getD 0 < 18446744073709551616) (ht : t < 4) (hval : validB x y l = false) :
    Calls Try.prog 51 #[.agg #[.int .i64 x, .int .i64 y, v], .int .i64 t, .int .i64 px, .int .i64 py] w fun e w' => e = .returned (.tuple #[.int .i64 0, .int .i64 62]) ∧ Fr (fun _ => False) w w' := by
  have HT : Hid (t < 4) := ht
  have HC : Hid (∀ w', Fr (fun _ => False) w w' → Calls Try.prog 23 #[.agg #[.int .i64 x, .int .i64 y, v]] w' fun e w'' => e = .returned (.bool false) ∧ Fr (fun _ => False) w' w'') := fun w' hf => by
    have h := check_any x y v l w' hx hy (hv.kept hf) hlt
    rwa [hval] at h
  obtain ⟨ao, cap, rfl, _, _⟩ := hv
  have HBX : Hid (∀ w', Fr (fun _ => False) (w.alloc (.cells #[.int .i64 x, .int .i64 y, .slice ao l.length cap] 24)) w' → w'.cell? ⟨w.heap.size, 0, none⟩ = some (.int .i64 x) ∧ w'.cell? ⟨w.heap.size, 1, none⟩ = some (.int .i64 y) ∧ w'.cell? ⟨w.heap.size, 2, none⟩ = some (.slice ao l.length cap)) := fun w' hf => by
    obtain ⟨c0, c1, c2, _⟩ := cell_of_three (blkOld hf (heap_alloc_new w (.cells #[.int .i64 x, .int .i64 y, .slice ao l.length cap] 24)))
    exact ⟨c0, c1, c2⟩
  have HA : Hid (Fr (fun _ => False) w (w.alloc (.cells #[.int .i64 x, .int .i64 y, .slice ao l.length cap] 24))) := (Fr.refl _ _).alloc _
  clear hx hy hlt ht hval
  go_enter Try.func51, Try.ntmps51
  go_wp2_with fail
  generalize w.alloc (.cells #[.int .i64 x, .int .i64 y, .slice ao l.length cap] 24) = w0 at *
  refine (spansOf_ok t HT.out _).mono ?_
  rintro e w1 ⟨rfl, hf1⟩
  have HF1 : Hid (Fr (fun _ => False) w0 (w1.alloc (.cells #[.int .i64 (fstS t 0), .int .i64 (lstS t 0), .int .i64 (fstS t 1), .int .i64 (lstS t 1), .int .i64 (fstS t 2), .int .i64 (lstS t 2)] 96))) := hf1.alloc _
  obtain ⟨c0, c1, c2⟩ := HBX.out _ HF1.out
  clear hf1
  unfold spansV
  go_wp2_with fail
  generalize w1.alloc (.cells #[.int .i64 (fstS t 0), .int .i64 (lstS t 0), .int .i64 (fstS t 1), .int .i64 (lstS t 1), .int .i64 (fstS t 2), .int .i64 (lstS t 2)] 96) = w2 at *
  refine (HC.out _ (HA.out.trans HF1.out (fun _ _ h => h))).mono ?_
  rintro e w3 ⟨rfl, hf3⟩
  have HF3 : Hid (Fr (fun _ => False) w w3) := (HA.out.trans HF1.out (fun _ _ h => h)).trans hf3 (fun _ _ h => h)
  clear hf3
  go_wp2_with fail
  go_ret2
  exact ⟨rfl, HF3.out⟩

set_option maxRecDepth 100000 in
set_option maxHeartbeats 2000000 in
theorem row_badF (x y : Int) (v : Value) (l : List Nat) (t : Nat) (py : Int) (w : World) (hx : -9223372036854775808 ≤ x ∧ x ≤ 9223372036854775807) (hy : -9223372036854775808 ≤ y ∧ y ≤ 9223372036854775807) (hv : Seen w v l) (hlt : ∀ j : Nat, l[j]?.getD 0 < 18446744073709551616) (ht : t < 4) (hval : validB x y l = false) :
    Calls Try.prog 53 #[.agg #[.int .i64 x, .int .i64 y, v], .int .i64 t, .int .i64 py] w fun e w' => e = .returned (.tuple #[.slice none 0 0, .int .i64 62]) ∧ Fr (fun _ => False) w w' := by
  have HT : Hid (t < 4) := ht
  have HC : Hid (∀ w', Fr (fun _ => False) w w' → Calls Try.prog 23 #[.agg #[.int .i64 x, .int .i64 y, v]] w' fun e w'' => e = .returned (.bool false) ∧ Fr (fun _ => False) w' w'') := fun w' hf => by
    have h := check_any x y v l w' hx hy (hv.kept hf) hlt
    rwa [hval] at h
  obtain ⟨ao, cap, rfl, _, _⟩ := hv
  have HBX : Hid (∀ w', Fr (fun _ => False) (w.alloc (.cells #[.int .i64 x, .int .i64 y, .slice ao l.length cap] 24)) w' → w'.cell? ⟨w.heap.size, 0, none⟩ = some (.int .i64 x) ∧ w'.cell? ⟨w.heap.size, 1, none⟩ = some (.int .i64 y) ∧ w'.cell? ⟨w.heap.size, 2, none⟩ = some (.slice ao l.length cap)) := fun w' hf => by
    obtain ⟨c0, c1, c2, _⟩ := cell_of_three (blkOld hf (heap_alloc_new w (.cells #[.int .i64 x, .int .i64 y, .slice ao l.length cap] 24)))
    exact ⟨c0, c1, c2⟩
  have HA : Hid (Fr (fun _ => False) w (w.alloc (.cells #[.int .i64 x, .int .i64 y, .slice ao l.length cap] 24))) := (Fr.refl _ _).alloc _
  clear hx hy hlt ht hval
  go_enter Try.func53, Try.ntmps53
  go_wp2_with fail
  generalize w.alloc (.cells #[.int .i64 x, .int .i64 y, .slice ao l.length cap] 24) = w0 at *
  refine (spansOf_ok t HT.out _).mono ?_
  rintro e w1 ⟨rfl, hf1⟩
  have HF1 : Hid (Fr (fun _ => False) w0 (w1.alloc (.cells #[.int .i64 (fstS t 0), .int .i64 (lstS t 0), .int .i64 (fstS t 1), .int .i64 (lstS t 1), .int .i64 (fstS t 2), .int .i64 (lstS t 2)] 96))) := hf1.alloc _
  obtain ⟨c0, c1, c2⟩ := HBX.out _ HF1.out
  clear hf1
  unfold spansV
  go_wp2_with fail
  generalize w1.alloc (.cells #[.int .i64 (fstS t 0), .int .i64 (lstS t 0), .int .i64 (fstS t 1), .int .i64 (lstS t 1), .int .i64 (fstS t 2), .int .i64 (lstS t 2)] 96) = w2 at *
  refine (HC.out _ (HA.out.trans HF1.out (fun _ _ h => h))).mono ?_
  rintro e w3 ⟨rfl, hf3⟩
  have HF3 : Hid (Fr (fun _ => False) w w3) := (HA.out.trans HF1.out (fun _ _ h => h)).trans hf3 (fun _ _ h => h)
  clear hf3
  go_wp2_with fail
  go_ret2
  exact ⟨rfl, HF3.out⟩

set_option maxRecDepth 100000 in
set_option maxHeartbeats 2000000 in
theorem row_lo (W H : Nat) (v : Value) (P : Nat → Nat → Bool) (t : Nat) (py : Int) (w : World) (hb : Bm w v W H P) (ht : t < 4) (hy : py < 0) :
    Calls Try.prog 53 #[.agg #[.int .i64 W, .int .i64 H, v], .int .i64 t, .int .i64 py] w fun e w' => e = .returned (.tuple #[.slice none 0 0, .int .i64 61]) ∧ Fr (fun _ => False) w w' := by
  have HT : Hid (t < 4) := ht
  have HB : Hid (∀ w', Fr (fun _ => False) w w' → Bm w' v W H P) := fun w' f => hb.kept f
  have hd1 : decide (py < 0) = true := decide_eq_true hy
  obtain ⟨ao, cap, rfl, _, _⟩ := hb.seen
  have HBX : Hid (∀ w', Fr (fun _ => False) (w.alloc (.cells #[.int .i64 W, .int .i64 H, .slice ao (render W H P).length cap] 24)) w' → w'.cell? ⟨w.heap.size, 0, none⟩ = some (.int .i64 W) ∧ w'.cell? ⟨w.heap.size, 1, none⟩ = some (.int .i64 H) ∧ w'.cell? ⟨w.heap.size, 2, none⟩ = some (.slice ao (render W H P).length cap)) := fun w' hf => by
    obtain ⟨c0, c1, c2, _⟩ := cell_of_three (blkOld hf (heap_alloc_new w (.cells #[.int .i64 W, .int .i64 H, .slice ao (render W H P).length cap] 24)))
    exact ⟨c0, c1, c2⟩
  generalize (render W H P).length = n at *
  have HA : Hid (Fr (fun _ => False) w (w.alloc (.cells #[.int .i64 W, .int .i64 H, .slice ao n cap] 24))) := (Fr.refl _ _).alloc _
  clear hb ht hy
  go_enter Try.func53, Try.ntmps53
  go_wp2_with fail
  generalize w.alloc (.cells #[.int .i64 W, .int .i64 H, .slice ao n cap] 24) = w0 at *
  refine (spansOf_ok t HT.out _).mono ?_
  rintro e w1 ⟨rfl, hf1⟩
  have HF1 : Hid (Fr (fun _ => False) w0 (w1.alloc (.cells #[.int .i64 (fstS t 0), .int .i64 (lstS t 0), .int .i64 (fstS t 1), .int .i64 (lstS t 1), .int .i64 (fstS t 2), .int .i64 (lstS t 2)] 96))) := hf1.alloc _
  obtain ⟨c0, c1, c2⟩ := HBX.out _ HF1.out
  clear hf1
  unfold spansV
  go_wp2_with fail
  generalize w1.alloc (.cells #[.int .i64 (fstS t 0), .int .i64 (lstS t 0), .int .i64 (fstS t 1), .int .i64 (lstS t 1), .int .i64 (fstS t 2), .int .i64 (lstS t 2)] 96) = w2 at *
  refine (HB.out _ (HA.out.trans HF1.out (fun _ _ h => h))).check.mono ?_
  rintro e w3 ⟨rfl, hf3⟩
  have HF3 : Hid (Fr (fun _ => False) w w3) := (HA.out.trans HF1.out (fun _ _ h => h)).trans hf3 (fun _ _ h => h)
  have HF03 : Hid (Fr (fun _ => False) w0 w3) := HF1.out.trans hf3 (fun _ _ h => h)
  clear hf3 c0 c1 c2
  obtain ⟨c0, c1, c2⟩ := HBX.out _ HF03.out
  go_wp2_with fail
  go_ret2
  exact ⟨rfl, HF3.out⟩

set_option maxRecDepth 100000 in
set_option maxHeartbeats 2000000 in
theorem row_hi (W H : Nat) (v : Value) (P : Nat → Nat → Bool) (t : Nat) (py : Int) (w : World) (hb : Bm w v W H P) (ht : t < 4) (hy : (H : Int) ≤ py) :
    Calls Try.prog 53 #[.agg #[.int .i64 W, .int .i64 H, v], .int .i64 t, .int .i64 py] w fun e w' => e = .returned (.tuple #[.slice none 0 0, .int .i64 61]) ∧ Fr (fun _ => False) w w' := by
  have HT : Hid (t < 4) := ht
  have HB : Hid (∀ w', Fr (fun _ => False) w w' → Bm w' v W H P) := fun w' f => hb.kept f
  have hd1 : decide (py < 0) = false := decide_eq_false (by omega)
  have hd2 : decide ((H : Int) ≤ py) = true := decide_eq_true hy
  obtain ⟨ao, cap, rfl, _, _⟩ := hb.seen
  have HBX : Hid (∀ w', Fr (fun _ => False) (w.alloc (.cells #[.int .i64 W, .int .i64 H, .slice ao (render W H P).length cap] 24)) w' → w'.cell? ⟨w.heap.size, 0, none⟩ = some (.int .i64 W) ∧ w'.cell? ⟨w.heap.size, 1, none⟩ = some (.int .i64 H) ∧ w'.cell? ⟨w.heap.size, 2, none⟩ = some (.slice ao (render W H P).length cap)) := fun w' hf => by
    obtain ⟨c0, c1, c2, _⟩ := cell_of_three (blkOld hf (heap_alloc_new w (.cells #[.int .i64 W, .int .i64 H, .slice ao (render W H P).length cap] 24)))
    exact ⟨c0, c1, c2⟩
  generalize (render W H P).length = n at *
  have HA : Hid (Fr (fun _ => False) w (w.alloc (.cells #[.int .i64 W, .int .i64 H, .slice ao n cap] 24))) := (Fr.refl _ _).alloc _
  clear hb ht hy
  go_enter Try.func53, Try.ntmps53
  go_wp2_with fail
  generalize w.alloc (.cells #[.int .i64 W, .int .i64 H, .slice ao n cap] 24) = w0 at *
  refine (spansOf_ok t HT.out _).mono ?_
  rintro e w1 ⟨rfl, hf1⟩
  have HF1 : Hid (Fr (fun _ => False) w0 (w1.alloc (.cells #[.int .i64 (fstS t 0), .int .i64 (lstS t 0), .int .i64 (fstS t 1), .int .i64 (lstS t 1), .int .i64 (fstS t 2), .int .i64 (lstS t 2)] 96))) := hf1.alloc _
  obtain ⟨c0, c1, c2⟩ := HBX.out _ HF1.out
  clear hf1
  unfold spansV
  go_wp2_with fail
  generalize w1.alloc (.cells #[.int .i64 (fstS t 0), .int .i64 (lstS t 0), .int .i64 (fstS t 1), .int .i64 (lstS t 1), .int .i64 (fstS t 2), .int .i64 (lstS t 2)] 96) = w2 at *
  refine (HB.out _ (HA.out.trans HF1.out (fun _ _ h => h))).check.mono ?_
  rintro e w3 ⟨rfl, hf3⟩
  have HF3 : Hid (Fr (fun _ => False) w w3) := (HA.out.trans HF1.out (fun _ _ h => h)).trans hf3 (fun _ _ h => h)
  have HF03 : Hid (Fr (fun _ => False) w0 w3) := HF1.out.trans hf3 (fun _ _ h => h)
  clear hf3 c0 c1 c2
  obtain ⟨c0, c1, c2⟩ := HBX.out _ HF03.out
  go_wp2_with fail
  go_ret2
  exact ⟨rfl, HF3.out⟩

end Go.Proofs.Ytkggdnkmaldmlab
