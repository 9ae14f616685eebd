/- 'CopyBitmap' of a bitmap that may be. -/
import Derived.Test.YtflhbmapikdmhaaDoorXr
import Derived.Test.YtflhbmapikdmhaaDoorCp
import Derived.Test.YtflhbmapikdmhaaDoorLe
import Derived.Deep.RegionHeld3
import Derived.Deep.RegionLaw
import Derived.Deep.AppendLies
namespace Go.Proofs.YtflhbmapikdmhaaDoor
open Go.RowKit

set_option maxRecDepth 100000 in
set_option maxHeartbeats 4000000 in
theorem copy_any (W H : Nat) (v : Value) (P : Nat → Nat → Bool) (w : World) (hb : Bm w v W H P) :
    Calls Tryd.prog 30 #[.agg #[.int .i64 W, .int .i64 H, v]] w fun e w' => ∃ g cap, e = .returned (.agg #[.int .i64 W, .int .i64 H, .slice (some ⟨g, 0, none⟩) (H * stride W) cap]) ∧ RowAt w' g cap W H P ∧ Fr (fun _ => False) w w' ∧ w.heap.size ≤ g := by
  obtain ⟨i0, hi, hz0, hz1, hz2⟩ := info_parts Tryd.info88
  obtain ⟨f1, f2, f3⟩ := size_facts hb.h1 hb.h2 hb.h3
  have hpos : 0 < H * stride W := Nat.mul_pos hb.h2 (stride_pos hb.h1)
  obtain ⟨ao, cap, rfl, _, hcc⟩ := hb.seen
  obtain ⟨b0, off, rfl, hcell⟩ := hcc (by intro e; have := length_render W H P; rw [e] at this; simp at this; omega)
  rw [length_render] at hcell ⊢
  have HN : Hid (∀ w', Fr (fun _ => False) w w' → ∀ j u, (wordCells (render W H P))[j]? = some u → w'.cell? ((⟨b0, off, none⟩ : Addr).add j) = some u) := fun w' hf j u hu => by
    have hj : j < H * stride W := by
      have := List.getElem?_eq_some_iff.1 hu
      obtain ⟨h, _⟩ := this
      rwa [length_wordCells, length_render] at h
    have h1 := hcell j hj
    rw [show (⟨b0, off, none⟩ : Addr).add j = ⟨b0, off + j, none⟩ by unfold Addr.add; split <;> simp_all, hf.cellEq (seen_lt h1) (fun h => h), h1]
    rw [wordCells_get] at hu
    rw [← hu, List.getElem?_eq_getElem (by rw [length_render]; exact hj)]; rfl
  have HLN : Hid ((wordCells (render W H P)).length = H * stride W * 1 ∧ ∀ u ∈ wordCells (render W H P), u.oneCell' = true) := ⟨by rw [length_wordCells, length_render]; omega, wordCells_one _⟩
  have HDEF : Hid (∀ u g c, World.ownsRow u 0 77 1 (.slice (some ⟨g, 0, none⟩) (0 + H * stride W) c) (0 + H * stride W) ([] ++ wordCells (render W H P)) → RowAt u g c W H P) := fun u g c h => by
    rw [Nat.zero_add, List.nil_append] at h; exact h
  have HA0 : Hid (Fr (fun _ => False) w ((w.alloc (.cells #[.int .i64 W, .int .i64 H, .slice (some ⟨b0, off, none⟩) (H * stride W) cap] 39)).alloc (.cells #[.int .i64 0, .int .i64 0, .slice none 0 0] 39))) := ((Fr.refl _ _).alloc _).alloc _
  have HB1 : Hid (∀ w', Fr (fun _ => False) ((w.alloc (.cells #[.int .i64 W, .int .i64 H, .slice (some ⟨b0, off, none⟩) (H * stride W) cap] 39)).alloc (.cells #[.int .i64 0, .int .i64 0, .slice none 0 0] 39)) w' → w'.heap[w.heap.size]? = some (.cells #[.int .i64 W, .int .i64 H, .slice (some ⟨b0, off, none⟩) (H * stride W) cap] 39 (0, 0)) ∧ w'.heap[w.heap.size + 1]? = some (.cells #[.int .i64 0, .int .i64 0, .slice none 0 0] 39 (0, 0))) := fun w' hf =>
    ⟨blkOld hf (blkUp (heap_alloc_new _ _) _), blkOld hf (by have := heap_alloc_new (w.alloc (.cells #[.int .i64 W, .int .i64 H, .slice (some ⟨b0, off, none⟩) (H * stride W) cap] 39)) (.cells #[.int .i64 0, .int .i64 0, .slice none 0 0] 39); rwa [World.size_alloc] at this)⟩
  generalize wordCells (render W H P) = news at *
  generalize H * stride W = N at *
  clear hb hcell hcc
  go_enter Tryd.func30, Tryd.ntmps30
  go_wp2_with fail
  generalize hw0 : (w.alloc (.cells #[.int .i64 W, .int .i64 H, .slice (some ⟨b0, off, none⟩) N cap] 39)).alloc (.cells #[.int .i64 0, .int .i64 0, .slice none 0 0] 39) = w0 at *
  have HSZ : Hid (w0.heap.size = w.heap.size + 2) := by show _ = _; rw [← hw0]; simp
  clear hw0
  obtain ⟨hb1, hb2⟩ := HB1.out w0 (Fr.refl _ _)
  obtain ⟨c0, c1, c2, _⟩ := cell_of_three hb1
  obtain ⟨d0, d1, d2, df⟩ := cell_of_three hb2
  have z0 := df 0
  have z1 := df 1
  have z2 := df 2
  clear hb1 hb2 df
  have KC : Hid (∀ (w1 : World), w0.drew.grownBy w1 none → Fr (fun _ => False) w0 w1) := fun w1 hgrow => ((Fr.refl _ _).drew).grown hgrow (fun k hk _ => by cases hk)
  go_region_law ((refine step_append_lies _ (by rfl) _ _ _ (by rfl) 0 77 i0 (.int .u64 0) 1 8 Tryd.underlying37 hi hz0 hz1 hz2 rfl (by decide) (.slice none 0 0) 0 [] (by rfl) (World.ownsRow_nil _ _ _ _) ⟨b0, off, none⟩ N cap news (by rfl) HLN.out.1 (HN.out _ (HA0.out.drew)) HLN.out.2 hpos (by unfold maxLen; omega) (by omega) (Nat.zero_le _) w0.heap.size (by rfl) ?_; intro g' cap' w1 hown1 hgrow hat hlt; have HF1 : Hid (Fr (fun _ => False) w0 w1) := KC.out w1 hgrow; have HO1 : Hid (RowAt w1 g' cap' W H P) := HDEF.out _ _ _ hown1; have HAT : Hid (g' = w0.heap.size) := (by rcases hat with h | h; cases h; exact h); obtain ⟨kb1, kb2⟩ := HB1.out w1 HF1.out; obtain ⟨k0, k1, k2, _⟩ := cell_of_three kb1; obtain ⟨l0, l1, l2, lf⟩ := cell_of_three kb2; have y0 := lf 0; have y1 := lf 1; have y2 := lf 2; have HKB : Hid (w1.heap[w.heap.size + 1]? = some (.cells #[.int .i64 0, .int .i64 0, .slice none 0 0] 39 (0, 0))) := kb2; clear hgrow hown1 hat kb1 kb2 lf))
  all_goals
    go_wp2_with fail
    have hb5 := set3_cells HKB.out (.int .i64 (W : Int)) (.int .i64 (H : Int)) (.slice (some ⟨g', 0, none⟩) N cap')
    have hfz : Fr (fun k => k = w.heap.size + 1) w1 (((w1.setCell ⟨w.heap.size + 1, 0, none⟩ (.int .i64 (W : Int))).setCell ⟨w.heap.size + 1, 1, none⟩ (.int .i64 (H : Int))).setCell ⟨w.heap.size + 1, 2, none⟩ (.slice (some ⟨g', 0, none⟩) N cap')) := (((Fr.refl (fun k => k = w.heap.size + 1) w1).setCell (p := ⟨w.heap.size + 1, 0, none⟩) (fun _ => rfl) _).setCell (p := ⟨w.heap.size + 1, 1, none⟩) (fun _ => rfl) _).setCell (p := ⟨w.heap.size + 1, 2, none⟩) (fun _ => rfl) _
    have hsz := HSZ.out
    have hat := HAT.out
    have HR : Hid (RowAt (((w1.setCell ⟨w.heap.size + 1, 0, none⟩ (.int .i64 (W : Int))).setCell ⟨w.heap.size + 1, 1, none⟩ (.int .i64 (H : Int))).setCell ⟨w.heap.size + 1, 2, none⟩ (.slice (some ⟨g', 0, none⟩) N cap')) g' cap' W H P) := HO1.out.kept hfz (by omega)
    have HF : Hid (Fr (fun _ => False) w (((w1.setCell ⟨w.heap.size + 1, 0, none⟩ (.int .i64 (W : Int))).setCell ⟨w.heap.size + 1, 1, none⟩ (.int .i64 (H : Int))).setCell ⟨w.heap.size + 1, 2, none⟩ (.slice (some ⟨g', 0, none⟩) N cap'))) := (HA0.out.trans HF1.out (fun _ _ h => h)).trans hfz (fun i hi e => by omega)
    generalize (((w1.setCell ⟨w.heap.size + 1, 0, none⟩ (.int .i64 (W : Int))).setCell ⟨w.heap.size + 1, 1, none⟩ (.int .i64 (H : Int))).setCell ⟨w.heap.size + 1, 2, none⟩ (.slice (some ⟨g', 0, none⟩) N cap')) = w5 at *
    obtain ⟨m0, m1, m2, _⟩ := cell_of_three hb5
    refine bodyPost_ret (v := .agg #[.int .i64 W, .int .i64 H, (.slice (some ⟨g', 0, none⟩) N cap')]) (by simp [results, Tryd.results30, go_sem, m0, m1, m2]) rfl ?_
    exact ⟨g', cap', rfl, HR.out, HF.out, by omega⟩

end Go.Proofs.YtflhbmapikdmhaaDoor
