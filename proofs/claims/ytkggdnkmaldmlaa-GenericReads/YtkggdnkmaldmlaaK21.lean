/- Package context: the refusals. -/
import Derived.Test.YtkggdnkmaldmlaaK20
import Derived.Test.YtkggdnkmaldmlaaK18
import Derived.BigQuiet
namespace Go.Proofs.Ytkggdnkmaldmlaa
open Go.RowKit

set_option maxRecDepth 100000 in
set_option maxHeartbeats 2000000 in
theorem size_bad (t : Int) (w : World) (ht : t < 0 ∨ 4 ≤ t) :
    Calls Try.prog 69 #[.int .i64 t] w fun e w' => e = .returned (.tuple #[.int .i64 0, .int .i64 60]) ∧ Fr (fun _ => False) w w' := by
  have HT : Hid (t < 0 ∨ 4 ≤ t) := ht
  clear ht
  go_enter Try.func69, Try.ntmps69
  go_wp2_with fail
  refine (spansOf_bad t HT.out _).mono ?_
  rintro e w1 ⟨rfl, hf1⟩
  have HF1 : Hid (Fr (fun _ => False) w (w1.alloc (.cells #[.int .i64 0, .int .i64 0, .int .i64 0, .int .i64 0, .int .i64 0, .int .i64 0] 137))) := hf1.alloc _
  clear hf1
  unfold noSpans
  go_wp2_with fail
  go_ret2
  exact ⟨rfl, HF1.out⟩

set_option maxRecDepth 100000 in
set_option maxHeartbeats 2000000 in
theorem at_badT (x y : Int) (v : Value) (l : List Nat) (t : Int) (px py : Int) (w : World) (hv : Seen w v l) (ht : t < 0 ∨ 4 ≤ t) :
    Calls Try.prog 91 #[.agg #[.int .i64 x, .int .i64 y, v], .int .i64 t, .int .i64 px, .int .i64 py] w fun e w' => e = .returned (.tuple #[.int .i64 0, .int .i64 60]) ∧ Fr (fun _ => False) w w' := by
  have HT : Hid (t < 0 ∨ 4 ≤ t) := ht
  obtain ⟨ao, cap, rfl, _, _⟩ := hv
  clear ht
  go_enter Try.func91, Try.ntmps91
  go_wp2_with fail
  refine (spansOf_bad t HT.out _).mono ?_
  rintro e w1 ⟨rfl, hf1⟩
  have HF1 : Hid (Fr (fun _ => False) w (w1.alloc (.cells #[.int .i64 0, .int .i64 0, .int .i64 0, .int .i64 0, .int .i64 0, .int .i64 0] 137))) := (((Fr.refl _ _).alloc _).trans hf1 (fun _ _ h => h)).alloc _
  clear hf1
  unfold noSpans
  go_wp2_with fail
  go_ret2
  exact ⟨rfl, HF1.out⟩

set_option maxRecDepth 100000 in
set_option maxHeartbeats 2000000 in
theorem row_badT (x y : Int) (v : Value) (l : List Nat) (t : Int) (py : Int) (w : World) (hv : Seen w v l) (ht : t < 0 ∨ 4 ≤ t) :
    Calls Try.prog 95 #[.agg #[.int .i64 x, .int .i64 y, v], .int .i64 t, .int .i64 py] w fun e w' => e = .returned (.tuple #[.slice none 0 0, .int .i64 60]) ∧ Fr (fun _ => False) w w' := by
  have HT : Hid (t < 0 ∨ 4 ≤ t) := ht
  obtain ⟨ao, cap, rfl, _, _⟩ := hv
  clear ht
  go_enter Try.func95, Try.ntmps95
  go_wp2_with fail
  refine (spansOf_bad t HT.out _).mono ?_
  rintro e w1 ⟨rfl, hf1⟩
  have HF1 : Hid (Fr (fun _ => False) w (w1.alloc (.cells #[.int .i64 0, .int .i64 0, .int .i64 0, .int .i64 0, .int .i64 0, .int .i64 0] 137))) := (((Fr.refl _ _).alloc _).trans hf1 (fun _ _ h => h)).alloc _
  clear hf1
  unfold noSpans
  go_wp2_with fail
  go_ret2
  exact ⟨rfl, HF1.out⟩

set_option maxRecDepth 100000 in
set_option maxHeartbeats 2000000 in
theorem at_badF (x y : Int) (v : Value) (l : List Nat) (t : Nat) (px py : Int) (w : World) (hx : -9223372036854775808 ≤ x ∧ x ≤ 9223372036854775807) (hy : -9223372036854775808 ≤ y ∧ y ≤ 9223372036854775807) (hv : Seen w v l) (hlt : ∀ j : Nat, l[j]?.getD 0 < 18446744073709551616) (ht : t < 4) (hval : validB x y l = false) :
    Calls Try.prog 91 #[.agg #[.int .i64 x, .int .i64 y, v], .int .i64 t, .int .i64 px, .int .i64 py] w fun e w' => e = .returned (.tuple #[.int .i64 0, .int .i64 62]) ∧ Fr (fun _ => False) w w' := by
  have HT : Hid (t < 4) := ht
  have HC : Hid (∀ w', Fr (fun _ => False) w w' → Calls Try.prog 48 #[.agg #[.int .i64 x, .int .i64 y, v]] w' fun e w'' => e = .returned (.bool false) ∧ Fr (fun _ => False) w' w'') := fun w' hf => by
    have h := check_any x y v l w' hx hy (hv.kept hf) hlt
    rwa [hval] at h
  obtain ⟨ao, cap, rfl, _, _⟩ := hv
  have HBX : Hid (∀ w', Fr (fun _ => False) (w.alloc (.cells #[.int .i64 x, .int .i64 y, .slice ao l.length cap] 26)) w' → w'.cell? ⟨w.heap.size, 0, none⟩ = some (.int .i64 x) ∧ w'.cell? ⟨w.heap.size, 1, none⟩ = some (.int .i64 y) ∧ w'.cell? ⟨w.heap.size, 2, none⟩ = some (.slice ao l.length cap)) := fun w' hf => by
    obtain ⟨c0, c1, c2, _⟩ := cell_of_three (blkOld hf (heap_alloc_new w (.cells #[.int .i64 x, .int .i64 y, .slice ao l.length cap] 26)))
    exact ⟨c0, c1, c2⟩
  have HA : Hid (Fr (fun _ => False) w (w.alloc (.cells #[.int .i64 x, .int .i64 y, .slice ao l.length cap] 26))) := (Fr.refl _ _).alloc _
  clear hx hy hlt ht hval
  go_enter Try.func91, Try.ntmps91
  go_wp2_with fail
  generalize w.alloc (.cells #[.int .i64 x, .int .i64 y, .slice ao l.length cap] 26) = w0 at *
  refine (spansOf_ok t HT.out _).mono ?_
  rintro e w1 ⟨rfl, hf1⟩
  have HF1 : Hid (Fr (fun _ => False) w0 (w1.alloc (.cells #[.int .i64 (fstS t 0), .int .i64 (lstS t 0), .int .i64 (fstS t 1), .int .i64 (lstS t 1), .int .i64 (fstS t 2), .int .i64 (lstS t 2)] 137))) := hf1.alloc _
  obtain ⟨c0, c1, c2⟩ := HBX.out _ HF1.out
  clear hf1
  unfold spansV
  go_wp2_with fail
  generalize w1.alloc (.cells #[.int .i64 (fstS t 0), .int .i64 (lstS t 0), .int .i64 (fstS t 1), .int .i64 (lstS t 1), .int .i64 (fstS t 2), .int .i64 (lstS t 2)] 137) = w2 at *
  refine (HC.out _ (HA.out.trans HF1.out (fun _ _ h => h))).mono ?_
  rintro e w3 ⟨rfl, hf3⟩
  have HF3 : Hid (Fr (fun _ => False) w w3) := (HA.out.trans HF1.out (fun _ _ h => h)).trans hf3 (fun _ _ h => h)
  clear hf3
  go_wp2_with fail
  go_ret2
  exact ⟨rfl, HF3.out⟩

set_option maxRecDepth 100000 in
set_option maxHeartbeats 2000000 in
theorem row_badF (x y : Int) (v : Value) (l : List Nat) (t : Nat) (py : Int) (w : World) (hx : -9223372036854775808 ≤ x ∧ x ≤ 9223372036854775807) (hy : -9223372036854775808 ≤ y ∧ y ≤ 9223372036854775807) (hv : Seen w v l) (hlt : ∀ j : Nat, l[j]?.getD 0 < 18446744073709551616) (ht : t < 4) (hval : validB x y l = false) :
    Calls Try.prog 95 #[.agg #[.int .i64 x, .int .i64 y, v], .int .i64 t, .int .i64 py] w fun e w' => e = .returned (.tuple #[.slice none 0 0, .int .i64 62]) ∧ Fr (fun _ => False) w w' := by
  have HT : Hid (t < 4) := ht
  have HC : Hid (∀ w', Fr (fun _ => False) w w' → Calls Try.prog 48 #[.agg #[.int .i64 x, .int .i64 y, v]] w' fun e w'' => e = .returned (.bool false) ∧ Fr (fun _ => False) w' w'') := fun w' hf => by
    have h := check_any x y v l w' hx hy (hv.kept hf) hlt
    rwa [hval] at h
  obtain ⟨ao, cap, rfl, _, _⟩ := hv
  have HBX : Hid (∀ w', Fr (fun _ => False) (w.alloc (.cells #[.int .i64 x, .int .i64 y, .slice ao l.length cap] 26)) w' → w'.cell? ⟨w.heap.size, 0, none⟩ = some (.int .i64 x) ∧ w'.cell? ⟨w.heap.size, 1, none⟩ = some (.int .i64 y) ∧ w'.cell? ⟨w.heap.size, 2, none⟩ = some (.slice ao l.length cap)) := fun w' hf => by
    obtain ⟨c0, c1, c2, _⟩ := cell_of_three (blkOld hf (heap_alloc_new w (.cells #[.int .i64 x, .int .i64 y, .slice ao l.length cap] 26)))
    exact ⟨c0, c1, c2⟩
  have HA : Hid (Fr (fun _ => False) w (w.alloc (.cells #[.int .i64 x, .int .i64 y, .slice ao l.length cap] 26))) := (Fr.refl _ _).alloc _
  clear hx hy hlt ht hval
  go_enter Try.func95, Try.ntmps95
  go_wp2_with fail
  generalize w.alloc (.cells #[.int .i64 x, .int .i64 y, .slice ao l.length cap] 26) = w0 at *
  refine (spansOf_ok t HT.out _).mono ?_
  rintro e w1 ⟨rfl, hf1⟩
  have HF1 : Hid (Fr (fun _ => False) w0 (w1.alloc (.cells #[.int .i64 (fstS t 0), .int .i64 (lstS t 0), .int .i64 (fstS t 1), .int .i64 (lstS t 1), .int .i64 (fstS t 2), .int .i64 (lstS t 2)] 137))) := hf1.alloc _
  obtain ⟨c0, c1, c2⟩ := HBX.out _ HF1.out
  clear hf1
  unfold spansV
  go_wp2_with fail
  generalize w1.alloc (.cells #[.int .i64 (fstS t 0), .int .i64 (lstS t 0), .int .i64 (fstS t 1), .int .i64 (lstS t 1), .int .i64 (fstS t 2), .int .i64 (lstS t 2)] 137) = w2 at *
  refine (HC.out _ (HA.out.trans HF1.out (fun _ _ h => h))).mono ?_
  rintro e w3 ⟨rfl, hf3⟩
  have HF3 : Hid (Fr (fun _ => False) w w3) := (HA.out.trans HF1.out (fun _ _ h => h)).trans hf3 (fun _ _ h => h)
  clear hf3
  go_wp2_with fail
  go_ret2
  exact ⟨rfl, HF3.out⟩

set_option maxRecDepth 100000 in
set_option maxHeartbeats 2000000 in
theorem row_lo (W H : Nat) (v : Value) (P : Nat → Nat → Bool) (t : Nat) (py : Int) (w : World) (hb : Bm w v W H P) (ht : t < 4) (hy : py < 0) :
    Calls Try.prog 95 #[.agg #[.int .i64 W, .int .i64 H, v], .int .i64 t, .int .i64 py] w fun e w' => e = .returned (.tuple #[.slice none 0 0, .int .i64 61]) ∧ Fr (fun _ => False) w w' := by
  have HT : Hid (t < 4) := ht
  have HB : Hid (∀ w', Fr (fun _ => False) w w' → Bm w' v W H P) := fun w' f => hb.kept f
  have hd1 : decide (py < 0) = true := decide_eq_true hy
  obtain ⟨ao, cap, rfl, _, _⟩ := hb.seen
  have HBX : Hid (∀ w', Fr (fun _ => False) (w.alloc (.cells #[.int .i64 W, .int .i64 H, .slice ao (render W H P).length cap] 26)) w' → w'.cell? ⟨w.heap.size, 0, none⟩ = some (.int .i64 W) ∧ w'.cell? ⟨w.heap.size, 1, none⟩ = some (.int .i64 H) ∧ w'.cell? ⟨w.heap.size, 2, none⟩ = some (.slice ao (render W H P).length cap)) := fun w' hf => by
    obtain ⟨c0, c1, c2, _⟩ := cell_of_three (blkOld hf (heap_alloc_new w (.cells #[.int .i64 W, .int .i64 H, .slice ao (render W H P).length cap] 26)))
    exact ⟨c0, c1, c2⟩
  generalize (render W H P).length = n at *
  have HA : Hid (Fr (fun _ => False) w (w.alloc (.cells #[.int .i64 W, .int .i64 H, .slice ao n cap] 26))) := (Fr.refl _ _).alloc _
  clear hb ht hy
  go_enter Try.func95, Try.ntmps95
  go_wp2_with fail
  generalize w.alloc (.cells #[.int .i64 W, .int .i64 H, .slice ao n cap] 26) = w0 at *
  refine (spansOf_ok t HT.out _).mono ?_
  rintro e w1 ⟨rfl, hf1⟩
  have HF1 : Hid (Fr (fun _ => False) w0 (w1.alloc (.cells #[.int .i64 (fstS t 0), .int .i64 (lstS t 0), .int .i64 (fstS t 1), .int .i64 (lstS t 1), .int .i64 (fstS t 2), .int .i64 (lstS t 2)] 137))) := hf1.alloc _
  obtain ⟨c0, c1, c2⟩ := HBX.out _ HF1.out
  clear hf1
  unfold spansV
  go_wp2_with fail
  generalize w1.alloc (.cells #[.int .i64 (fstS t 0), .int .i64 (lstS t 0), .int .i64 (fstS t 1), .int .i64 (lstS t 1), .int .i64 (fstS t 2), .int .i64 (lstS t 2)] 137) = w2 at *
  refine (HB.out _ (HA.out.trans HF1.out (fun _ _ h => h))).check.mono ?_
  rintro e w3 ⟨rfl, hf3⟩
  have HF3 : Hid (Fr (fun _ => False) w w3) := (HA.out.trans HF1.out (fun _ _ h => h)).trans hf3 (fun _ _ h => h)
  have HF03 : Hid (Fr (fun _ => False) w0 w3) := HF1.out.trans hf3 (fun _ _ h => h)
  clear hf3 c0 c1 c2
  obtain ⟨c0, c1, c2⟩ := HBX.out _ HF03.out
  go_wp2_with fail
  go_ret2
  exact ⟨rfl, HF3.out⟩

set_option maxRecDepth 100000 in
set_option maxHeartbeats 2000000 in
theorem row_hi (W H : Nat) (v : Value) (P : Nat → Nat → Bool) (t : Nat) (py : Int) (w : World) (hb : Bm w v W H P) (ht : t < 4) (hy : (H : Int) ≤ py) :
    Calls Try.prog 95 #[.agg #[.int .i64 W, .int .i64 H, v], .int .i64 t, .int .i64 py] w fun e w' => e = .returned (.tuple #[.slice none 0 0, .int .i64 61]) ∧ Fr (fun _ => False) w w' := by
  have HT : Hid (t < 4) := ht
  have HB : Hid (∀ w', Fr (fun _ => False) w w' → Bm w' v W H P) := fun w' f => hb.kept f
  have hd1 : decide (py < 0) = false := decide_eq_false (by omega)
  have hd2 : decide ((H : Int) ≤ py) = true := decide_eq_true hy
  obtain ⟨ao, cap, rfl, _, _⟩ := hb.seen
  have HBX : Hid (∀ w', Fr (fun _ => False) (w.alloc (.cells #[.int .i64 W, .int .i64 H, .slice ao (render W H P).length cap] 26)) w' → w'.cell? ⟨w.heap.size, 0, none⟩ = some (.int .i64 W) ∧ w'.cell? ⟨w.heap.size, 1, none⟩ = some (.int .i64 H) ∧ w'.cell? ⟨w.heap.size, 2, none⟩ = some (.slice ao (render W H P).length cap)) := fun w' hf => by
    obtain ⟨c0, c1, c2, _⟩ := cell_of_three (blkOld hf (heap_alloc_new w (.cells #[.int .i64 W, .int .i64 H, .slice ao (render W H P).length cap] 26)))
    exact ⟨c0, c1, c2⟩
  generalize (render W H P).length = n at *
  have HA : Hid (Fr (fun _ => False) w (w.alloc (.cells #[.int .i64 W, .int .i64 H, .slice ao n cap] 26))) := (Fr.refl _ _).alloc _
  clear hb ht hy
  go_enter Try.func95, Try.ntmps95
  go_wp2_with fail
  generalize w.alloc (.cells #[.int .i64 W, .int .i64 H, .slice ao n cap] 26) = w0 at *
  refine (spansOf_ok t HT.out _).mono ?_
  rintro e w1 ⟨rfl, hf1⟩
  have HF1 : Hid (Fr (fun _ => False) w0 (w1.alloc (.cells #[.int .i64 (fstS t 0), .int .i64 (lstS t 0), .int .i64 (fstS t 1), .int .i64 (lstS t 1), .int .i64 (fstS t 2), .int .i64 (lstS t 2)] 137))) := hf1.alloc _
  obtain ⟨c0, c1, c2⟩ := HBX.out _ HF1.out
  clear hf1
  unfold spansV
  go_wp2_with fail
  generalize w1.alloc (.cells #[.int .i64 (fstS t 0), .int .i64 (lstS t 0), .int .i64 (fstS t 1), .int .i64 (lstS t 1), .int .i64 (fstS t 2), .int .i64 (lstS t 2)] 137) = w2 at *
  refine (HB.out _ (HA.out.trans HF1.out (fun _ _ h => h))).check.mono ?_
  rintro e w3 ⟨rfl, hf3⟩
  have HF3 : Hid (Fr (fun _ => False) w w3) := (HA.out.trans HF1.out (fun _ _ h => h)).trans hf3 (fun _ _ h => h)
  have HF03 : Hid (Fr (fun _ => False) w0 w3) := HF1.out.trans hf3 (fun _ _ h => h)
  clear hf3 c0 c1 c2
  obtain ⟨c0, c1, c2⟩ := HBX.out _ HF03.out
  go_wp2_with fail
  go_ret2
  exact ⟨rfl, HF3.out⟩

end Go.Proofs.Ytkggdnkmaldmlaa

/- Package generic: ownBits, newProcedure, count, fits. -/
namespace Go.Proofs.Ytkggdnkmaldmlaa
open Go.RowKit

theorem own_black : ∀ t, t < 4 → ctx (pixI 64 1 (fun _ _ => true)) t 64 0 = 2 ^ cntS t 2 - 1 := by decide +kernel
theorem render_black : render 64 1 (fun _ _ => true) = [18446744073709551615] := by decide +kernel

set_option maxRecDepth 100000 in
set_option maxHeartbeats 1000000 in
theorem ownBits_any (t : Nat) (ht : t < 4) (w : World) :
    Calls Try.prog 70 #[.int .i64 t] w fun e w' => e = .returned (.int .i64 ((2 ^ cntS t 2 - 1 : Nat) : Int)) ∧ Fr (fun _ => False) w w' := by
  have HA : Hid (∀ (w' : World) (b : Nat), w'.heap[b]? = some (.cells #[.int .u64 18446744073709551615] 83 (0, 0)) → Calls Try.prog 91 #[.agg #[.int .i64 64, .int .i64 1, .slice (some ⟨b, 0, none⟩) 1 1], .int .i64 t, .int .i64 64, .int .i64 0] w' fun e w'' => e = .returned (.tuple #[.int .i64 ((2 ^ cntS t 2 - 1 : Nat) : Int), .int .i64 0]) ∧ Fr (fun _ => False) w' w'') := fun w' b hb => by
    have hbm : Bm w' (.slice (some ⟨b, 0, none⟩) 1 1) 64 1 (fun _ _ => true) := by
      refine ⟨⟨some ⟨b, 0, none⟩, 1, by rw [render_black]; rfl, by rw [render_black]; decide, fun _ => ⟨b, 0, rfl, fun j hj => ?_⟩⟩, ?_, by decide, by decide, by decide⟩
      · rw [render_black] at hj ⊢
        simp at hj
        subst hj
        simp [World.cell?, hb]
      · intro ao n c e
        simp only [Value.slice.injEq] at e
        obtain ⟨_, rfl, rfl⟩ := e
        exact ⟨by decide, by unfold maxLen; decide⟩
    have := at_ok 64 1 _ (fun _ _ => true) t 64 0 w' hbm ht (by decide) (by decide)
    rw [own_black t ht] at this
    exact this
  go_enter Try.func70, Try.ntmps70
  go_wp2_with fail
  refine (HA.out _ w.heap.size (by rw [Below.heap_alloc _ _ _ (by simp)]; exact heap_alloc_new w _)).mono ?_
  rintro e w1 ⟨rfl, hf1⟩
  have HF : Hid (Fr (fun _ => False) w w1) := (((Fr.refl _ _).alloc _).alloc _).trans hf1 (fun _ _ h => h)
  clear hf1
  go_wp2_with fail
  go_ret
  exact ⟨rfl, HF.out⟩

theorem set5_cells {w : World} {o : Nat} {x y z u v : Value} {t : TypeId} (h : w.heap[o]? = some (.cells #[x, y, z, u, v] t (0, 0))) (a b c d e : Value) : (((((w.setCell ⟨o, 0, none⟩ a).setCell ⟨o, 1, none⟩ b).setCell ⟨o, 2, none⟩ c).setCell ⟨o, 3, none⟩ d).setCell ⟨o, 4, none⟩ e).heap[o]? = some (.cells #[a, b, c, d, e] t (0, 0)) := by
  simp [World.setCell, Array.getElem?_modify, h]

theorem Fr.set5 (w : World) (o : Nat) (a b c d e : Value) : Fr (fun k => k = o) w (((((w.setCell ⟨o, 0, none⟩ a).setCell ⟨o, 1, none⟩ b).setCell ⟨o, 2, none⟩ c).setCell ⟨o, 3, none⟩ d).setCell ⟨o, 4, none⟩ e) :=
  (((((Fr.refl (fun k => k = o) w).setCell (p := ⟨o, 0, none⟩) (fun _ => rfl) _).setCell (p := ⟨o, 1, none⟩) (fun _ => rfl) _).setCell (p := ⟨o, 2, none⟩) (fun _ => rfl) _).setCell (p := ⟨o, 3, none⟩) (fun _ => rfl) _).setCell (p := ⟨o, 4, none⟩) (fun _ => rfl) _
/-- A procedure, its base any number. -/
def procI (base : Int) (t : Nat) (skip : Bool) : Value := .agg #[.int .i64 base, .int .i64 t, .int .i64 (sizeT t : Nat), .int .i64 ((2 ^ cntS t 2 - 1 : Nat) : Int), .bool skip]
theorem procI_nat (base t : Nat) (skip : Bool) : procI (base : Int) t skip = procV base t skip := rfl

set_option maxRecDepth 100000 in
set_option maxHeartbeats 1000000 in
theorem newProc_ok (base : Int) (t : Nat) (skip : Bool) (ht : t < 4) (w : World) :
    Calls Try.prog 38 #[.int .i64 base, .int .i64 t, .bool skip] w fun e w' => e = .returned (.tuple #[procI base t skip, .int .i64 0]) ∧ Fr (fun _ => False) w w' := by
  have HS : Hid (∀ w', Calls Try.prog 69 #[.int .i64 t] w' fun e w'' => e = .returned (.tuple #[.int .i64 (sizeT t : Nat), .int .i64 0]) ∧ Fr (fun _ => False) w' w'') := fun w' => size_any t ht w'
  have HO : Hid (∀ w', Calls Try.prog 70 #[.int .i64 t] w' fun e w'' => e = .returned (.int .i64 ((2 ^ cntS t 2 - 1 : Nat) : Int)) ∧ Fr (fun _ => False) w' w'') := fun w' => ownBits_any t ht w'
  unfold procI
  clear ht
  generalize sizeT t = Z at *
  generalize 2 ^ cntS t 2 - 1 = O at *
  go_enter Try.func38, Try.ntmps38
  go_wp2_with fail
  refine (HS.out _).mono ?_
  rintro e w1 ⟨rfl, hf1⟩
  have HF1 : Hid (Fr (fun _ => False) (w.alloc (.cells #[.int .i64 0, .int .i64 0, .int .i64 0, .int .i64 0, .bool false] 85)) w1) := hf1
  clear hf1
  go_wp2_with fail
  refine (HO.out _).mono ?_
  rintro e w2 ⟨rfl, hf2⟩
  have hf12 := HF1.out.trans hf2 (fun _ _ h => h)
  have hb2 : w2.heap[w.heap.size]? = some (.cells #[.int .i64 0, .int .i64 0, .int .i64 0, .int .i64 0, .bool false] 85 (0, 0)) := (hf12.block _ (by simp) (fun h => h)).trans (heap_alloc_new w _)
  have HF2 : Hid (Fr (fun _ => False) w w2) := ((Fr.refl _ _).alloc _).trans hf12 (fun _ _ h => h)
  obtain ⟨z0, z1, z2, z3, z4, zf⟩ := cell_of_five hb2
  clear hf2 hf12
  have h3 := set5_cells hb2 (.int .i64 base) (.int .i64 t) (.int .i64 Z) (.int .i64 O) (.bool skip)
  have HF3 : Hid (Fr (fun k => k = w.heap.size) w2 (((((w2.setCell ⟨w.heap.size, 0, none⟩ (.int .i64 base)).setCell ⟨w.heap.size, 1, none⟩ (.int .i64 t)).setCell ⟨w.heap.size, 2, none⟩ (.int .i64 Z)).setCell ⟨w.heap.size, 3, none⟩ (.int .i64 O)).setCell ⟨w.heap.size, 4, none⟩ (.bool skip))) := Fr.set5 _ _ _ _ _ _ _
  obtain ⟨y0, y1, y2, y3, y4, yf⟩ := cell_of_five h3
  have HY : Hid (((((w2.setCell ⟨w.heap.size, 0, none⟩ (.int .i64 base)).setCell ⟨w.heap.size, 1, none⟩ (.int .i64 t)).setCell ⟨w.heap.size, 2, none⟩ (.int .i64 Z)).setCell ⟨w.heap.size, 3, none⟩ (.int .i64 O)).setCell ⟨w.heap.size, 4, none⟩ (.bool skip) = ((((w2.setCell ⟨w.heap.size, 0, none⟩ (.int .i64 base)).setCell ⟨w.heap.size, 1, none⟩ (.int .i64 t)).setCell ⟨w.heap.size, 2, none⟩ (.int .i64 Z)).setCell ⟨w.heap.size, 3, none⟩ (.int .i64 O)).setCell ⟨w.heap.size, 4, none⟩ (.bool skip)) := rfl
  obtain ⟨w3, hw3⟩ : ∃ w3, w3 = ((((w2.setCell ⟨w.heap.size, 0, none⟩ (.int .i64 base)).setCell ⟨w.heap.size, 1, none⟩ (.int .i64 t)).setCell ⟨w.heap.size, 2, none⟩ (.int .i64 Z)).setCell ⟨w.heap.size, 3, none⟩ (.int .i64 O)).setCell ⟨w.heap.size, 4, none⟩ (.bool skip) := ⟨_, rfl⟩
  rw [← hw3] at y0 y1 y2 y3 y4 HF3
  have HW3 := (show Hid (w3 = ((((w2.setCell ⟨w.heap.size, 0, none⟩ (.int .i64 base)).setCell ⟨w.heap.size, 1, none⟩ (.int .i64 t)).setCell ⟨w.heap.size, 2, none⟩ (.int .i64 Z)).setCell ⟨w.heap.size, 3, none⟩ (.int .i64 O)).setCell ⟨w.heap.size, 4, none⟩ (.bool skip)) from hw3)
  clear h3 hb2 hw3 yf HY
  go_wp2_with fail
  rw [← HW3.out]
  refine bodyPost_ret (v := .tuple #[.agg #[.int .i64 base, .int .i64 t, .int .i64 Z, .int .i64 O, .bool skip], .int .i64 0]) (by simp [results, Try.results38, go_sem, y0, y1, y2, y3, y4]) rfl ?_
  exact ⟨rfl, HF2.out.trans HF3.out (fun i hi e => by omega)⟩

set_option maxRecDepth 100000 in
set_option maxHeartbeats 1000000 in
theorem newProc_bad (base t : Int) (skip : Bool) (ht : t < 0 ∨ 4 ≤ t) (w : World) :
    Calls Try.prog 38 #[.int .i64 base, .int .i64 t, .bool skip] w fun e w' => e = .returned (.tuple #[.agg #[.int .i64 0, .int .i64 0, .int .i64 0, .int .i64 0, .bool false], .int .i64 60]) ∧ Fr (fun _ => False) w w' := by
  have HT : Hid (t < 0 ∨ 4 ≤ t) := ht
  clear ht
  go_enter Try.func38, Try.ntmps38
  go_wp2_with fail
  refine (size_bad t _ HT.out).mono ?_
  rintro e w1 ⟨rfl, hf1⟩
  have hb2 : w1.heap[w.heap.size]? = some (.cells #[.int .i64 0, .int .i64 0, .int .i64 0, .int .i64 0, .bool false] 85 (0, 0)) := (hf1.block _ (by simp) (fun h => h)).trans (heap_alloc_new w _)
  have HF2 : Hid (Fr (fun _ => False) w w1) := ((Fr.refl _ _).alloc _).trans hf1 (fun _ _ h => h)
  obtain ⟨z0, z1, z2, z3, z4, zf⟩ := cell_of_five hb2
  have h3 := set5_cells hb2 (.int .i64 0) (.int .i64 0) (.int .i64 0) (.int .i64 0) (.bool false)
  have HF3 : Hid (Fr (fun k => k = w.heap.size) w1 (((((w1.setCell ⟨w.heap.size, 0, none⟩ (.int .i64 0)).setCell ⟨w.heap.size, 1, none⟩ (.int .i64 0)).setCell ⟨w.heap.size, 2, none⟩ (.int .i64 0)).setCell ⟨w.heap.size, 3, none⟩ (.int .i64 0)).setCell ⟨w.heap.size, 4, none⟩ (.bool false))) := Fr.set5 _ _ _ _ _ _ _
  obtain ⟨y0, y1, y2, y3, y4, yf⟩ := cell_of_five h3
  clear h3 hb2 yf hf1
  go_wp2_with fail
  refine bodyPost_ret (v := .tuple #[.agg #[.int .i64 0, .int .i64 0, .int .i64 0, .int .i64 0, .bool false], .int .i64 60]) (by simp [results, Try.results38, go_sem, y0, y1, y2, y3, y4]) rfl ?_
  exact ⟨rfl, HF2.out.trans HF3.out (fun i hi e => by omega)⟩

set_option maxRecDepth 100000 in
set_option maxHeartbeats 1000000 in
theorem count7_any (base : Int) (t : Nat) (skip : Bool) (ht : t < 4) (w : World) :
    Calls Try.prog 39 #[procI base t skip] w fun e w' => e = .returned (.int .i64 ((sizeT t + 1 : Nat) : Int)) ∧ Fr (fun _ => False) w w' := by
  have hZ := sizeT_le t ht
  unfold procI
  generalize sizeT t = Z at *
  go_enter Try.func39, Try.ntmps39
  go_wp2_with fail
  go_ret
  exact ⟨by rw [Int.natCast_add]; rfl, (Fr.refl _ _).alloc _⟩

set_option maxRecDepth 100000 in
set_option maxHeartbeats 1000000 in
theorem fits_pos (base t : Nat) (skip : Bool) (n : Nat) (ht : t < 4) (hb : base ≤ 9223372036854775807) (hn : n ≤ 131072) (w : World) :
    Calls Try.prog 49 #[procV base t skip, .int .i64 n] w fun e w' => e = .returned (.bool (decide (base + sizeT t + 1 ≤ n))) ∧ Fr (fun _ => False) w w' := by
  have HC : Hid (∀ w', Calls Try.prog 39 #[.agg #[.int .i64 base, .int .i64 t, .int .i64 (sizeT t : Nat), .int .i64 ((2 ^ cntS t 2 - 1 : Nat) : Int), .bool skip]] w' fun e w'' => e = .returned (.int .i64 ((sizeT t + 1 : Nat) : Int)) ∧ Fr (fun _ => False) w' w'') := fun w' => count7_any base t skip ht w'
  have hZ := sizeT_le t ht
  unfold procV
  generalize sizeT t = Z at *
  have HB1 : Hid (∀ w', Fr (fun _ => False) (w.alloc (.cells #[.int .i64 base, .int .i64 t, .int .i64 Z, .int .i64 ((2 ^ cntS t 2 - 1 : Nat) : Int), .bool skip] 85)) w' → w'.cell? ⟨w.heap.size, 0, none⟩ = some (.int .i64 base) ∧ w'.cell? ⟨w.heap.size, 1, none⟩ = some (.int .i64 t) ∧ w'.cell? ⟨w.heap.size, 2, none⟩ = some (.int .i64 Z) ∧ w'.cell? ⟨w.heap.size, 3, none⟩ = some (.int .i64 ((2 ^ cntS t 2 - 1 : Nat) : Int)) ∧ w'.cell? ⟨w.heap.size, 4, none⟩ = some (.bool skip)) := fun w' f => by
    obtain ⟨p0, p1, p2, p3, p4, _⟩ := cell_of_five ((f.block w.heap.size (by simp) (fun h => h)).trans (heap_alloc_new w _))
    exact ⟨p0, p1, p2, p3, p4⟩
  have hd : decide ((0 : Int) ≤ base) = true := decide_eq_true (by omega)
  have hw1 : IntKind.i64.wrap ((n : Int) - ((Z + 1 : Nat) : Int)) = (n : Int) - ((Z + 1 : Nat) : Int) := by rw [IntKind.wrap_i64]; omega
  have HD : Hid (decide ((base : Int) ≤ (n : Int) - ((Z + 1 : Nat) : Int)) = decide (base + Z + 1 ≤ n)) := by show _ = _; rw [decide_eq_decide]; omega
  generalize ((Z + 1 : Nat) : Int) = C at *
  rw [← HD.out]
  go_enter Try.func49, Try.ntmps49
  go_wp2_with fail
  go_region_held3 (fun w' => w'.cell? ⟨w.heap.size, 0, none⟩ = some (.int .i64 base) ∧ w'.cell? ⟨w.heap.size, 1, none⟩ = some (.int .i64 t) ∧ w'.cell? ⟨w.heap.size, 2, none⟩ = some (.int .i64 Z) ∧ w'.cell? ⟨w.heap.size, 3, none⟩ = some (.int .i64 ((2 ^ cntS t 2 - 1 : Nat) : Int)) ∧ w'.cell? ⟨w.heap.size, 4, none⟩ = some (.bool skip)) (exact HB1.out _ (by repeat (first | with_reducible exact Fr.refl _ _ | with_reducible refine Fr.drew ?_ | with_reducible refine Fr.trans ?_ hf5 (fun _ _ hh => hh)))) (first | (go_at_call 39; refine (HC.out _).mono ?_; rintro e w5 ⟨rfl, hf5⟩))
  have HF : Hid (Fr (fun _ => False) w w5) := ((Fr.refl _ _).alloc _).drew.trans hf5 (fun _ _ h => h)
  clear hf5
  go_wp2_with fail
  go_ret
  exact ⟨rfl, HF.out⟩

end Go.Proofs.Ytkggdnkmaldmlaa

/- Package generic: contexts. -/
namespace Go.Proofs.Ytkggdnkmaldmlaa
open Go.RowKit

/-- Rows of a bitmap as a bitmap of their own. -/
theorem RowAt.part {w : World} {g cap W H : Nat} {P : Pxs} (h : RowAt w g cap W H P) (h1 : 1 ≤ W) (h3 : W * H ≤ 1048576) (f y : Nat) (hf : f ≤ y) (hy : y < H) : Bm w (.slice (some ⟨g, f * stride W, none⟩) ((y + 1 - f) * stride W) (cap - f * stride W)) W (y + 1 - f) (fun a e => P a (e + f)) := by
  obtain ⟨cur, hc, hcap, hm, hs, ht⟩ := h.cur
  have hS : 0 < stride W := stride_pos (by omega)
  have hyS : (y + 1) * stride W ≤ H * stride W := Nat.mul_le_mul_right _ (by omega)
  have hfS : f * stride W + (y + 1 - f) * stride W = (y + 1) * stride W := by rw [← Nat.add_mul, show f + (y + 1 - f) = y + 1 by omega]
  obtain ⟨_, _, f3⟩ := size_facts h1 (show 1 ≤ H by omega) h3
  refine ⟨⟨_, _, by rw [length_render], by rw [length_render]; omega, fun _ => ⟨g, f * stride W, rfl, fun j hj => ?_⟩⟩, ?_, h1, by omega, ?_⟩
  · rw [length_render] at hj
    rw [World.ownsRow.cellAt h _ (by omega), wordCells_get, render_get' _ hj, render_get' _ (by omega)]
    have e1 : (f * stride W + j) / stride W = f + j / stride W := by rw [Nat.add_comm, Nat.mul_comm, Nat.add_mul_div_left _ _ hS, Nat.add_comm]
    have e2 : (f * stride W + j) % stride W = j % stride W := by rw [Nat.add_comm, Nat.mul_comm, Nat.add_mul_mod_self_left]
    rw [e1, e2]
    show some (Value.int .u64 ((wd W P (f + j / stride W) (j % stride W) : Nat) : Int)) = some (Value.int .u64 ((wd W (fun a e => P a (e + f)) (j / stride W) (j % stride W) : Nat) : Int))
    rw [wd_shift (Q := fun a e => P a (e + f)) (z := j / stride W) (fun x _ => by rw [Nat.add_comm])]
  · intro ao n c e
    simp only [Value.slice.injEq] at e
    obtain ⟨_, rfl, rfl⟩ := e
    omega
  · exact Nat.le_trans (Nat.mul_le_mul_left W (show y + 1 - f ≤ H by omega)) h3

set_option maxRecDepth 100000 in
set_option maxHeartbeats 2000000 in
theorem contexts_any (base t W H y g cap : Nat) (skip : Bool) (P : Pxs) (w : World) (hr : RowAt w g cap W H P) (ht : t < 4) (hy : y < H) (h1 : 1 ≤ W) (h3 : W * H ≤ 1048576) :
    Calls Try.prog 82 #[procV base t skip, .agg #[.int .i64 W, .int .i64 H, .slice (some ⟨g, 0, none⟩) (H * stride W) cap], .int .i64 y] w fun e w' => ∃ gi, e = .returned (.slice (some ⟨gi, 0, none⟩) W W) ∧ IntRow w' gi W (fun x => cxJ W P t x y) ∧ w.heap.size ≤ gi ∧ Fr (fun _ => False) w w' := by
  obtain ⟨f1, f2, f3⟩ := size_facts h1 (show 1 ≤ H by omega) h3
  have hS : 0 < stride W := stride_pos (by omega)
  have hS2 : stride W ≤ 1048576 := by unfold stride; omega
  obtain ⟨f, hf⟩ : ∃ f, f = y - 2 := ⟨_, rfl⟩
  have HR : Hid (∀ w', Fr (fun _ => False) w w' → Bm w' (.slice (some ⟨g, f * stride W, none⟩) ((y + 1 - f) * stride W) (cap - f * stride W)) W (y + 1 - f) (fun a e => P a (e + f))) := fun w' fr => (hr.kept fr (fun h => h)).part h1 h3 f y (by omega) hy
  obtain ⟨cur, hc, hcap, hm, hs, hct⟩ := hr.cur
  have hyS : (y + 1) * stride W ≤ H * stride W := Nat.mul_le_mul_right _ (by omega)
  have hfS : f * stride W + (y + 1 - f) * stride W = (y + 1) * stride W := by rw [← Nat.add_mul, show f + (y + 1 - f) = y + 1 by omega]
  have hdiv : Int.tdiv ((H * stride W : Nat) : Int) (H : Int) = (stride W : Int) := by
    rw [Int.tdiv_eq_ediv_of_nonneg (by omega), Int.natCast_mul, Int.mul_ediv_cancel_left _ (by omega)]
  have hH0 : ((H : Int) == 0) = false := by rw [beq_eq_false_iff_ne]; omega
  unfold procV
  clear hr hc hs hct
  obtain ⟨A, hA⟩ : ∃ A, A = f * stride W := ⟨_, rfl⟩
  obtain ⟨E, hE⟩ : ∃ E, E = (y + 1) * stride W := ⟨_, rfl⟩
  have hA1 : (f : Int) * (stride W : Int) = (A : Int) := by rw [hA]; push_cast; rfl
  have hE1 : ((y : Int) + 1) * (stride W : Int) = (E : Int) := by rw [hE]; push_cast; rfl
  have hL : (y + 1 - f) * stride W = E - A := by omega
  rw [hL, ← hA] at HR
  rw [← hE] at hyS
  have hAE : A < E := by
    have : 1 * stride W ≤ (y + 1 - f) * stride W := Nat.mul_le_mul_right _ (by omega)
    omega
  clear hfS hL hA hE
  generalize stride W = S at *
  generalize hN : H * S = N at *
  clear hN
  generalize sizeT t = Z at *
  have hy20 : y ≤ 1048576 := by omega
  have hHp : 1 ≤ H := by omega
  have HRow : Hid (∀ (w' : World), Fr (fun _ => False) w w' → ∀ (h yy : Int), h = ((y + 1 - f : Nat) : Int) → yy = ((y - f : Nat) : Int) → Calls Try.prog 95 #[.agg #[.int .i64 W, .int .i64 h, .slice (some ⟨g, A, none⟩) (E - A) (cap - A)], .int .i64 t, .int .i64 yy] w' fun e w'' => ∃ gi, e = .returned (.tuple #[.slice (some ⟨gi, 0, none⟩) W W, .int .i64 0]) ∧ IntRow w'' gi W (fun x => cxJ W P t x y) ∧ w'.heap.size ≤ gi ∧ Fr (fun _ => False) w' w'') := fun w' fr h yy eh ey => by
    subst eh; subst ey
    refine (row_ok W (y + 1 - f) _ (fun a e => P a (e + f)) t (y - f) w' (HR.out w' fr) ht (by omega)).mono ?_
    rintro e w'' ⟨gi, rfl, hi, hg, hf'⟩
    exact ⟨gi, rfl, hi.congr (fun x _ => cxJ_part W P t x y f ht hf), hg, hf'⟩
  clear hm cur h3 hy ht HR
  rcases (show f = 0 ∨ (3 ≤ y ∧ y = f + 2) by omega) with h0 | h0
  · subst h0
    simp only [Int.natCast_zero, Int.zero_mul] at hA1
    obtain rfl : A = 0 := by omega
    have hy2 : y ≤ 2 := by omega
    simp only [Nat.sub_zero] at HRow
    clear hf hAE hA1
    go_enter Try.func82, Try.ntmps82
    go_wp2_with fail
    go_region
    go_wp2_with fail
    refine (HRow.out _ (by repeat (first | with_reducible exact Fr.refl _ _ | with_reducible refine Fr.drew ?_ | with_reducible refine Fr.alloc ?_ _)) _ _ (by omega) rfl).mono ?_
    rintro e w2 ⟨gi, rfl, hi, hg, hf2⟩
    have HI : Hid (IntRow w2 gi W (fun x => cxJ W P t x y)) := hi
    have HG : Hid (w.heap.size ≤ gi) := by simp at hg; show _ ≤ _; omega
    have HF : Hid (Fr (fun _ => False) w w2) := by
      refine Fr.trans (T := fun _ => False) ?_ hf2 (fun _ _ h => h)
      repeat (first | with_reducible exact Fr.refl _ _ | with_reducible refine Fr.drew ?_ | with_reducible refine Fr.alloc ?_ _)
    clear hi hg hf2
    go_wp2_with fail
    go_ret
    exact ⟨gi, rfl, HI.out, HG.out, HF.out⟩
  · obtain ⟨hy2, h0⟩ := h0
    have HY3 : Hid ((y : Int) - 2 = (f : Int) ∧ ((y : Int) + 1) - ((y : Int) - 2) = ((y + 1 - f : Nat) : Int) ∧ (y : Int) - ((y : Int) - 2) = ((y - f : Nat) : Int)) := by refine ⟨?_, ?_, ?_⟩ <;> omega
    have hA2 : ((y : Int) - 2) * (S : Int) = (A : Int) := by rw [HY3.out.1]; exact hA1
    have hne : ¬ cap = A := by omega
    clear hf h0 hA1
    generalize hq1 : y + 1 - f = q1 at *
    generalize hq2 : y - f = q2 at *
    clear hq1 hq2
    go_enter Try.func82, Try.ntmps82
    go_wp2_with fail
    go_region
    go_wp2_with fail
    refine (HRow.out _ (by repeat (first | with_reducible exact Fr.refl _ _ | with_reducible refine Fr.drew ?_ | with_reducible refine Fr.alloc ?_ _)) _ _ HY3.out.2.1 HY3.out.2.2).mono ?_
    rintro e w2 ⟨gi, rfl, hi, hg, hf2⟩
    have HI : Hid (IntRow w2 gi W (fun x => cxJ W P t x y)) := hi
    have HG : Hid (w.heap.size ≤ gi) := by simp at hg; show _ ≤ _; omega
    have HF : Hid (Fr (fun _ => False) w w2) := by
      refine Fr.trans (T := fun _ => False) ?_ hf2 (fun _ _ h => h)
      repeat (first | with_reducible exact Fr.refl _ _ | with_reducible refine Fr.drew ?_ | with_reducible refine Fr.alloc ?_ _)
    clear hi hg hf2
    go_wp2_with fail
    go_ret
    exact ⟨gi, rfl, HI.out, HG.out, HF.out⟩

end Go.Proofs.Ytkggdnkmaldmlaa
