/- The reference's page: End. -/
import Derived.Test.YtejempbgpkeheaaRs
import Derived.Test.YtejempbgpkeheaaCw
namespace Go.Proofs.Ytejempbgpkeheaa
open Go.RowKit

/-- Whether the reference's End refuses. -/
def rendNo (n s H : Nat) (dn : Bool) : Bool := dn || (decide (0 < s) && decide (n < H))

set_option maxRecDepth 100000 in
set_option maxHeartbeats 2000000 in
theorem rend_no {w : World} {r g N W H d s n : Nat} {dn : Bool} {P : Nat → Nat → Bool} (h : RpAt w r g N W H d s n dn P) (hno : rendNo n s H dn = true) :
    Calls Try.prog 17 #[.pointer (some ⟨r, 0, none⟩)] w fun e w' => e = .returned (.tuple #[.agg #[.int .i64 0, .int .i64 0, .slice none 0 0], .int .i64 151]) ∧ Fr (fun _ => False) w w' := by
  have HF : Hid (Fr (fun _ => False) w (w.alloc (.cells #[.int .i64 0, .int .i64 0, .slice none 0 0] 38))) := (Fr.refl _ _).alloc _
  have HZ : Hid ((w.alloc (.cells #[.int .i64 0, .int .i64 0, .slice none 0 0] 38)).heap[w.heap.size]? = some (.cells #[.int .i64 0, .int .i64 0, .slice none 0 0] 38 (0, 0))) := heap_alloc_new _ _
  have hb : (w.alloc (.cells #[.int .i64 0, .int .i64 0, .slice none 0 0] 38)).heap[r]? = _ := (HF.out.block r h.lt (fun h => h)).trans h.blk
  obtain ⟨c0, c1, c2, c3, c4, c5, c6, c7, c8, cf⟩ := cell_of_nine hb
  clear h hb c0 c2 c4 c5 c6
  go_enter Try.func17, Try.ntmps17
  go_wp2_with fail
  cases dn with
  | true =>
    go_quiet (fail)
    have hz : ((w.alloc (.cells #[.int .i64 0, .int .i64 0, .slice none 0 0] 38)).drewN nq).heap[w.heap.size]? = some (.cells #[.int .i64 0, .int .i64 0, .slice none 0 0] 38 (0, 0)) := HZ.out
    have HFZ : Hid (Fr (fun _ => False) w ((w.alloc (.cells #[.int .i64 0, .int .i64 0, .slice none 0 0] 38)).drewN nq)) := HF.out.drewN nq
    clear HZ HF c1 c3 c7 c8 cf
    generalize (w.alloc (.cells #[.int .i64 0, .int .i64 0, .slice none 0 0] 38)).drewN nq = wz at *
    have HZ3 : Hid ((((wz.setCell ⟨w.heap.size, 0, none⟩ (.int .i64 0)).setCell ⟨w.heap.size, 1, none⟩ (.int .i64 0)).setCell ⟨w.heap.size, 2, none⟩ (.slice none 0 0)).heap[w.heap.size]? = some (.cells #[.int .i64 0, .int .i64 0, .slice none 0 0] 38 (0, 0))) := three_set hz _ _ _
    have HF3 : Hid (Fr (fun _ => False) w (((wz.setCell ⟨w.heap.size, 0, none⟩ (.int .i64 0)).setCell ⟨w.heap.size, 1, none⟩ (.int .i64 0)).setCell ⟨w.heap.size, 2, none⟩ (.slice none 0 0))) := HFZ.out.trans (Fr.three _ _ _ _) (fun i hi e => by omega)
    obtain ⟨z0, z1, z2, zf⟩ := cell_of_three hz
    clear hz HFZ
    go_wp2_with fail
    generalize ((wz.setCell ⟨w.heap.size, 0, none⟩ (.int .i64 0)).setCell ⟨w.heap.size, 1, none⟩ (.int .i64 0)).setCell ⟨w.heap.size, 2, none⟩ (.slice none 0 0) = w5 at *
    obtain ⟨y0, y1, y2, yf⟩ := cell_of_three HZ3.out
    (try simp only [Exit.inBlock, Exit.then])
    refine bodyPost_ret (by simp [results, Try.results17, go_sem, y0, y1, y2]; rfl) rfl ?_
    exact ⟨rfl, HF3.out⟩
  | false =>
    simp only [rendNo, Bool.false_or, Bool.and_eq_true, decide_eq_true_eq] at hno
    obtain ⟨g1, g2⟩ := hno
    have d1 : decide ((0 : Int) < (s : Int)) = true := decide_eq_true (by omega)
    have d1' : decide (0 < s) = true := decide_eq_true g1
    have d2 : decide ((n : Int) < (H : Int)) = true := decide_eq_true (by omega)
    have d2' : decide (n < H) = true := decide_eq_true g2
    go_quiet (fail)
    have hz : ((w.alloc (.cells #[.int .i64 0, .int .i64 0, .slice none 0 0] 38)).drewN nq).heap[w.heap.size]? = some (.cells #[.int .i64 0, .int .i64 0, .slice none 0 0] 38 (0, 0)) := HZ.out
    have HFZ : Hid (Fr (fun _ => False) w ((w.alloc (.cells #[.int .i64 0, .int .i64 0, .slice none 0 0] 38)).drewN nq)) := HF.out.drewN nq
    clear HZ HF c1 c3 c7 c8 cf
    generalize (w.alloc (.cells #[.int .i64 0, .int .i64 0, .slice none 0 0] 38)).drewN nq = wz at *
    have HZ3 : Hid ((((wz.setCell ⟨w.heap.size, 0, none⟩ (.int .i64 0)).setCell ⟨w.heap.size, 1, none⟩ (.int .i64 0)).setCell ⟨w.heap.size, 2, none⟩ (.slice none 0 0)).heap[w.heap.size]? = some (.cells #[.int .i64 0, .int .i64 0, .slice none 0 0] 38 (0, 0))) := three_set hz _ _ _
    have HF3 : Hid (Fr (fun _ => False) w (((wz.setCell ⟨w.heap.size, 0, none⟩ (.int .i64 0)).setCell ⟨w.heap.size, 1, none⟩ (.int .i64 0)).setCell ⟨w.heap.size, 2, none⟩ (.slice none 0 0))) := HFZ.out.trans (Fr.three _ _ _ _) (fun i hi e => by omega)
    obtain ⟨z0, z1, z2, zf⟩ := cell_of_three hz
    clear hz HFZ
    go_wp2_with fail
    generalize ((wz.setCell ⟨w.heap.size, 0, none⟩ (.int .i64 0)).setCell ⟨w.heap.size, 1, none⟩ (.int .i64 0)).setCell ⟨w.heap.size, 2, none⟩ (.slice none 0 0) = w5 at *
    obtain ⟨y0, y1, y2, yf⟩ := cell_of_three HZ3.out
    (try simp only [Exit.inBlock, Exit.then])
    refine bodyPost_ret (by simp [results, Try.results17, go_sem, y0, y1, y2]; rfl) rfl ?_
    exact ⟨rfl, HF3.out⟩


set_option maxRecDepth 100000 in
set_option maxHeartbeats 4000000 in
theorem rend_ok {w : World} {r g N W H d s n : Nat} {P : Nat → Nat → Bool} (h : RpAt w r g N W H d s n false P) (hok : rendNo n s H false = false) (hN : N ≤ 1000) :
    Calls Try.prog 17 #[.pointer (some ⟨r, 0, none⟩)] w fun e w' => ∃ g2 cap2, e = .returned (.tuple #[.agg #[.int .i64 W, .int .i64 H, .slice (some ⟨g2, 0, none⟩) N cap2], .int .i64 0]) ∧ RowAt w' g2 cap2 W H P ∧ RpAt w' r g N W H d s H true P ∧ Fr (fun k => k = r) w w' ∧ w.heap.size ≤ g2 := by
  have HF : Hid (Fr (fun _ => False) w (w.alloc (.cells #[.int .i64 0, .int .i64 0, .slice none 0 0] 38))) := (Fr.refl _ _).alloc _
  have HZ : Hid ((w.alloc (.cells #[.int .i64 0, .int .i64 0, .slice none 0 0] 38)).heap[w.heap.size]? = some (.cells #[.int .i64 0, .int .i64 0, .slice none 0 0] 38 (0, 0))) := heap_alloc_new _ _
  have HA : Hid (RpAt (w.alloc (.cells #[.int .i64 0, .int .i64 0, .slice none 0 0] 38)) r g N W H d s n false P) := h.same HF.out
  have hr : r < w.heap.size := h.lt
  have hg : g < w.heap.size := h.row.lt
  obtain ⟨c0, c1, c2, c3, c4, c5, c6, c7, c8, cf⟩ := cell_of_nine HA.out.blk
  have HCP : Hid (∀ w', RB w' g N W H P → Calls Try.prog 39 #[.agg #[.int .i64 W, .int .i64 H, .slice (some ⟨g, 0, none⟩) N N]] w' fun e w'' => ∃ g2 cap2, e = .returned (.agg #[.int .i64 W, .int .i64 H, .slice (some ⟨g2, 0, none⟩) N cap2]) ∧ RowAt w'' g2 cap2 W H P ∧ Fr (fun _ => False) w' w'' ∧ w'.heap.size ≤ g2) := fun w' hb => by
    obtain ⟨hNN, hrow⟩ := hb
    subst hNN
    have f := size_facts h.w1 h.h1 h.a1
    have hpos : 0 < (render W H P).length := by
      rw [length_render]
      have e1 := h.h1
      have e2 : 1 ≤ stride W := by have := h.w1; unfold stride; omega
      exact Nat.mul_pos e1 e2
    refine (copy_words (W : Int) (H : Int) _ (render W H P) w' (hrow.seen f.2.2) hpos (by rw [length_render]; exact hN)).mono ?_
    rintro e w'' ⟨g2, cap2, he, ho, hf, hg2⟩
    rw [length_render] at he
    refine ⟨g2, cap2, he, ?_, hf, hg2⟩
    unfold OwnW at ho
    rw [length_render] at ho
    exact ho
  have hall : (decide ((0 : Int) < (s : Int)) = false ∧ decide (0 < s) = false) ∨ ((decide ((0 : Int) < (s : Int)) = true ∧ decide (0 < s) = true) ∧ decide ((n : Int) < (H : Int)) = false ∧ decide (n < H) = false) := by
    simp only [rendNo, Bool.false_or, Bool.and_eq_false_iff, decide_eq_false_iff_not] at hok
    by_cases h0 : 0 < s
    · right
      have h1 : ¬ n < H := by rcases hok with k | k; exact absurd h0 k; exact k
      exact ⟨⟨decide_eq_true (by omega), decide_eq_true h0⟩, decide_eq_false (by omega), decide_eq_false h1⟩
    · left
      exact ⟨decide_eq_false (by omega), decide_eq_false h0⟩
  clear h hok hN
  rcases hall with ⟨d1, d1'⟩ | ⟨⟨d1, d1'⟩, d2, d2'⟩
  · go_enter Try.func17, Try.ntmps17
    go_wp2_with fail
    go_quiet (fail)
    have hz : ((w.alloc (.cells #[.int .i64 0, .int .i64 0, .slice none 0 0] 38)).drewN nq).heap[w.heap.size]? = some (.cells #[.int .i64 0, .int .i64 0, .slice none 0 0] 38 (0, 0)) := HZ.out
    have HFZ : Hid (Fr (fun _ => False) w ((w.alloc (.cells #[.int .i64 0, .int .i64 0, .slice none 0 0] 38)).drewN nq)) := HF.out.drewN nq
    have HAZ : Hid (RpAt ((w.alloc (.cells #[.int .i64 0, .int .i64 0, .slice none 0 0] 38)).drewN nq) r g N W H d s n false P) := HA.out.same ((Fr.refl _ _).drewN nq)
    clear HZ HF HA c0 c1 c2 c3 c4 c5 c6 c7 c8 cf
    generalize (w.alloc (.cells #[.int .i64 0, .int .i64 0, .slice none 0 0] 38)).drewN nq = wz at *
    obtain ⟨c0, c1, c2, c3, c4, c5, c6, c7, c8, cf⟩ := cell_of_nine HAZ.out.blk
    have HP5 : Hid (((wz.setCell ⟨r, 8, none⟩ (.bool true)).setCell ⟨r, 7, none⟩ (.int .i64 H)).heap[r]? = some (.cells #[.int .i64 W, .int .i64 H, .int .i64 d, .int .i64 s, .int .i64 W, .int .i64 H, .slice (some ⟨g, 0, none⟩) N N, .int .i64 H, .bool true] 42 (0, 0))) := set_seven _ _ _ _ _ _ _ _ _ _ _ _ _ (set_eight _ _ _ _ _ _ _ _ _ _ _ _ _ HAZ.out.blk)
    have HF5 : Hid (Fr (fun k => k = r) wz ((wz.setCell ⟨r, 8, none⟩ (.bool true)).setCell ⟨r, 7, none⟩ (.int .i64 H))) := (Fr.one _ r 8 _).trans (Fr.one _ r 7 _) (fun _ _ h => h)
    have HZZ : Hid (wz.heap[w.heap.size]? = some (.cells #[.int .i64 0, .int .i64 0, .slice none 0 0] 38 (0, 0))) := hz
    clear hz
    go_upto_region 5 with (fail)
    have HFW : Hid (Fr (fun k => k = r) w ((wz.setCell ⟨r, 8, none⟩ (.bool true)).setCell ⟨r, 7, none⟩ (.int .i64 H))) := (Fr.mono HFZ.out (fun _ _ h => h.elim)).trans HF5.out (fun _ _ h => h)
    have HZ5 : Hid (((wz.setCell ⟨r, 8, none⟩ (.bool true)).setCell ⟨r, 7, none⟩ (.int .i64 H)).heap[w.heap.size]? = some (.cells #[.int .i64 0, .int .i64 0, .slice none 0 0] 38 (0, 0))) := blk_kept HZZ.out HF5.out (by omega)
    have HRP : Hid (RpAt ((wz.setCell ⟨r, 8, none⟩ (.bool true)).setCell ⟨r, 7, none⟩ (.int .i64 H)) r g N W H d s H true P) := ⟨HP5.out, HAZ.out.row.kept HF5.out (fun e => HAZ.out.rg e.symm), HAZ.out.rg, HAZ.out.w1, HAZ.out.h1, HAZ.out.a1, Nat.le_refl _, HAZ.out.sl⟩
    clear c0 c1 c2 c3 c4 c5 c6 c7 c8 cf HP5 HF5 HZZ HAZ HFZ
    generalize (wz.setCell ⟨r, 8, none⟩ (.bool true)).setCell ⟨r, 7, none⟩ (.int .i64 H) = w5 at *
    obtain ⟨-, -, -, -, c4, c5, c6, -⟩ := cell_of_nine HRP.out.blk
    go_wp2_with fail
    refine (HCP.out w5 HRP.out.row).mono ?_
    rintro e w6 ⟨g2, cap2, rfl, ho, hf6, hg6⟩
    have HO6 : Hid (RowAt w6 g2 cap2 W H P) := ho
    have HR6 : Hid (RpAt w6 r g N W H d s H true P) := HRP.out.same hf6
    have HF6 : Hid (Fr (fun k => k = r) w w6) := HFW.out.trans hf6 (fun _ _ h => h.elim)
    have hz6 : w6.heap[w.heap.size]? = _ := blk_kept HZ5.out hf6 (fun h => h)
    have HG6 : Hid (w.heap.size < g2 ∧ w.heap.size ≤ g2) := by
      have a1 := lt_of_block HZ5.out
      exact ⟨by omega, by omega⟩
    have HB7 : Hid ((((w6.setCell ⟨w.heap.size, 0, none⟩ (.int .i64 W)).setCell ⟨w.heap.size, 1, none⟩ (.int .i64 H)).setCell ⟨w.heap.size, 2, none⟩ (.slice (some ⟨g2, 0, none⟩) N cap2)).heap[w.heap.size]? = some (.cells #[.int .i64 W, .int .i64 H, .slice (some ⟨g2, 0, none⟩) N cap2] 38 (0, 0))) := three_set hz6 _ _ _
    have HF7 : Hid (Fr (fun k => k = w.heap.size) w6 (((w6.setCell ⟨w.heap.size, 0, none⟩ (.int .i64 W)).setCell ⟨w.heap.size, 1, none⟩ (.int .i64 H)).setCell ⟨w.heap.size, 2, none⟩ (.slice (some ⟨g2, 0, none⟩) N cap2))) := Fr.three _ _ _ _
    obtain ⟨z0, z1, z2, zf⟩ := cell_of_three hz6
    clear ho hf6 hg6 hz6 c4 c5 c6 HRP HFW HZ5 HCP
    go_wp2_with fail
    generalize ((w6.setCell ⟨w.heap.size, 0, none⟩ (.int .i64 W)).setCell ⟨w.heap.size, 1, none⟩ (.int .i64 H)).setCell ⟨w.heap.size, 2, none⟩ (.slice (some ⟨g2, 0, none⟩) N cap2) = w7 at *
    obtain ⟨y0, y1, y2, yf⟩ := cell_of_three HB7.out
    (try simp only [Exit.inBlock, Exit.then])
    refine bodyPost_ret (by simp [results, Try.results17, go_sem, y0, y1, y2]; rfl) rfl ?_
    have a6 := HG6.out
    refine ⟨g2, cap2, rfl, HO6.out.kept HF7.out (by omega), HR6.out.kept HF7.out (by omega) (by omega), ?_, a6.2⟩
    exact HF6.out.trans HF7.out (fun i hi e => by omega)
  · go_enter Try.func17, Try.ntmps17
    go_wp2_with fail
    go_quiet (fail)
    have hz : ((w.alloc (.cells #[.int .i64 0, .int .i64 0, .slice none 0 0] 38)).drewN nq).heap[w.heap.size]? = some (.cells #[.int .i64 0, .int .i64 0, .slice none 0 0] 38 (0, 0)) := HZ.out
    have HFZ : Hid (Fr (fun _ => False) w ((w.alloc (.cells #[.int .i64 0, .int .i64 0, .slice none 0 0] 38)).drewN nq)) := HF.out.drewN nq
    have HAZ : Hid (RpAt ((w.alloc (.cells #[.int .i64 0, .int .i64 0, .slice none 0 0] 38)).drewN nq) r g N W H d s n false P) := HA.out.same ((Fr.refl _ _).drewN nq)
    clear HZ HF HA c0 c1 c2 c3 c4 c5 c6 c7 c8 cf
    generalize (w.alloc (.cells #[.int .i64 0, .int .i64 0, .slice none 0 0] 38)).drewN nq = wz at *
    obtain ⟨c0, c1, c2, c3, c4, c5, c6, c7, c8, cf⟩ := cell_of_nine HAZ.out.blk
    have HP5 : Hid (((wz.setCell ⟨r, 8, none⟩ (.bool true)).setCell ⟨r, 7, none⟩ (.int .i64 H)).heap[r]? = some (.cells #[.int .i64 W, .int .i64 H, .int .i64 d, .int .i64 s, .int .i64 W, .int .i64 H, .slice (some ⟨g, 0, none⟩) N N, .int .i64 H, .bool true] 42 (0, 0))) := set_seven _ _ _ _ _ _ _ _ _ _ _ _ _ (set_eight _ _ _ _ _ _ _ _ _ _ _ _ _ HAZ.out.blk)
    have HF5 : Hid (Fr (fun k => k = r) wz ((wz.setCell ⟨r, 8, none⟩ (.bool true)).setCell ⟨r, 7, none⟩ (.int .i64 H))) := (Fr.one _ r 8 _).trans (Fr.one _ r 7 _) (fun _ _ h => h)
    have HZZ : Hid (wz.heap[w.heap.size]? = some (.cells #[.int .i64 0, .int .i64 0, .slice none 0 0] 38 (0, 0))) := hz
    clear hz
    go_upto_region 5 with (fail)
    have HFW : Hid (Fr (fun k => k = r) w ((wz.setCell ⟨r, 8, none⟩ (.bool true)).setCell ⟨r, 7, none⟩ (.int .i64 H))) := (Fr.mono HFZ.out (fun _ _ h => h.elim)).trans HF5.out (fun _ _ h => h)
    have HZ5 : Hid (((wz.setCell ⟨r, 8, none⟩ (.bool true)).setCell ⟨r, 7, none⟩ (.int .i64 H)).heap[w.heap.size]? = some (.cells #[.int .i64 0, .int .i64 0, .slice none 0 0] 38 (0, 0))) := blk_kept HZZ.out HF5.out (by omega)
    have HRP : Hid (RpAt ((wz.setCell ⟨r, 8, none⟩ (.bool true)).setCell ⟨r, 7, none⟩ (.int .i64 H)) r g N W H d s H true P) := ⟨HP5.out, HAZ.out.row.kept HF5.out (fun e => HAZ.out.rg e.symm), HAZ.out.rg, HAZ.out.w1, HAZ.out.h1, HAZ.out.a1, Nat.le_refl _, HAZ.out.sl⟩
    clear c0 c1 c2 c3 c4 c5 c6 c7 c8 cf HP5 HF5 HZZ HAZ HFZ
    generalize (wz.setCell ⟨r, 8, none⟩ (.bool true)).setCell ⟨r, 7, none⟩ (.int .i64 H) = w5 at *
    obtain ⟨-, -, -, -, c4, c5, c6, -⟩ := cell_of_nine HRP.out.blk
    go_wp2_with fail
    refine (HCP.out w5 HRP.out.row).mono ?_
    rintro e w6 ⟨g2, cap2, rfl, ho, hf6, hg6⟩
    have HO6 : Hid (RowAt w6 g2 cap2 W H P) := ho
    have HR6 : Hid (RpAt w6 r g N W H d s H true P) := HRP.out.same hf6
    have HF6 : Hid (Fr (fun k => k = r) w w6) := HFW.out.trans hf6 (fun _ _ h => h.elim)
    have hz6 : w6.heap[w.heap.size]? = _ := blk_kept HZ5.out hf6 (fun h => h)
    have HG6 : Hid (w.heap.size < g2 ∧ w.heap.size ≤ g2) := by
      have a1 := lt_of_block HZ5.out
      exact ⟨by omega, by omega⟩
    have HB7 : Hid ((((w6.setCell ⟨w.heap.size, 0, none⟩ (.int .i64 W)).setCell ⟨w.heap.size, 1, none⟩ (.int .i64 H)).setCell ⟨w.heap.size, 2, none⟩ (.slice (some ⟨g2, 0, none⟩) N cap2)).heap[w.heap.size]? = some (.cells #[.int .i64 W, .int .i64 H, .slice (some ⟨g2, 0, none⟩) N cap2] 38 (0, 0))) := three_set hz6 _ _ _
    have HF7 : Hid (Fr (fun k => k = w.heap.size) w6 (((w6.setCell ⟨w.heap.size, 0, none⟩ (.int .i64 W)).setCell ⟨w.heap.size, 1, none⟩ (.int .i64 H)).setCell ⟨w.heap.size, 2, none⟩ (.slice (some ⟨g2, 0, none⟩) N cap2))) := Fr.three _ _ _ _
    obtain ⟨z0, z1, z2, zf⟩ := cell_of_three hz6
    clear ho hf6 hg6 hz6 c4 c5 c6 HRP HFW HZ5 HCP
    go_wp2_with fail
    generalize ((w6.setCell ⟨w.heap.size, 0, none⟩ (.int .i64 W)).setCell ⟨w.heap.size, 1, none⟩ (.int .i64 H)).setCell ⟨w.heap.size, 2, none⟩ (.slice (some ⟨g2, 0, none⟩) N cap2) = w7 at *
    obtain ⟨y0, y1, y2, yf⟩ := cell_of_three HB7.out
    (try simp only [Exit.inBlock, Exit.then])
    refine bodyPost_ret (by simp [results, Try.results17, go_sem, y0, y1, y2]; rfl) rfl ?_
    have a6 := HG6.out
    refine ⟨g2, cap2, rfl, HO6.out.kept HF7.out (by omega), HR6.out.kept HF7.out (by omega) (by omega), ?_, a6.2⟩
    exact HF6.out.trans HF7.out (fun i hi e => by omega)

end Go.Proofs.Ytejempbgpkeheaa
