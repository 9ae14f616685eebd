/- 'CopyBitmap' of any words. -/
import Derived.Test.YtgpciopoionmeaaCp
import Derived.Deep.RegionHeld3
namespace Go.Proofs.Ytgpciopoionmeaa
open Go.RowKit

def OwnW (w : World) (g cap : Nat) (l : List Nat) : Prop := w.ownsRow 0 62 1 (.slice (some ⟨g, 0, none⟩) l.length cap) l.length (wordCells l)
theorem OwnW.kept {S : Nat → Prop} {w w' : World} {g cap : Nat} {l : List Nat} (h : OwnW w g cap l) (f : Fr S w w') (h1 : ¬ S g) : OwnW w' g cap l :=
  row_kept h f (fun k hk => by simp [Value.ownBlock] at hk; subst hk; exact h1)

set_option maxRecDepth 100000 in
set_option maxHeartbeats 4000000 in
theorem copy_words (x y : Int) (v : Value) (l : List Nat) (w : World) (hv : Seen w v l) (h1 : 0 < l.length) (h2 : l.length ≤ 1000) :
    Calls Try.prog 32 #[.agg #[.int .i64 x, .int .i64 y, v]] w fun e w' => ∃ g cap, e = .returned (.agg #[.int .i64 x, .int .i64 y, .slice (some ⟨g, 0, none⟩) l.length cap]) ∧ OwnW w' g cap l ∧ Fr (fun _ => False) w w' ∧ w.heap.size ≤ g := by
  obtain ⟨i0, hi, hz0, hz1, hz2⟩ := info_parts Try.infoUw
  have hpos : 0 < l.length := h1
  obtain ⟨ao, cap, rfl, _, hcc⟩ := hv
  obtain ⟨b0, off, rfl, hcell⟩ := hcc (by intro e; rw [e] at hpos; simp at hpos)
  have HN : Hid (∀ w', Fr (fun _ => False) w w' → ∀ j u, (wordCells l)[j]? = some u → w'.cell? ((⟨b0, off, none⟩ : Addr).add j) = some u) := fun w' hf j u hu => by
    have hj : j < l.length := by
      have := List.getElem?_eq_some_iff.1 hu
      obtain ⟨h, _⟩ := this
      rwa [length_wordCells] at h
    have h1 := hcell j hj
    rw [show (⟨b0, off, none⟩ : Addr).add j = ⟨b0, off + j, none⟩ by unfold Addr.add; split <;> simp_all, hf.cellEq (seen_lt h1) (fun h => h), h1]
    rw [wordCells_get] at hu
    rw [← hu, List.getElem?_eq_getElem hj]; rfl
  have HLN : Hid ((wordCells l).length = l.length * 1 ∧ ∀ u ∈ wordCells l, u.oneCell' = true) := ⟨by rw [length_wordCells]; omega, wordCells_one _⟩
  have HDEF : Hid (∀ u g c, World.ownsRow u 0 62 1 (.slice (some ⟨g, 0, none⟩) (0 + l.length) c) (0 + l.length) ([] ++ wordCells l) → OwnW u g c l) := fun u g c h => by
    rw [Nat.zero_add, List.nil_append] at h; exact h
  have HA0 : Hid (Fr (fun _ => False) w ((w.alloc (.cells #[.int .i64 x, .int .i64 y, .slice (some ⟨b0, off, none⟩) (l.length) cap] 25)).alloc (.cells #[.int .i64 0, .int .i64 0, .slice none 0 0] 25))) := ((Fr.refl _ _).alloc _).alloc _
  have HB1 : Hid (∀ w', Fr (fun _ => False) ((w.alloc (.cells #[.int .i64 x, .int .i64 y, .slice (some ⟨b0, off, none⟩) (l.length) cap] 25)).alloc (.cells #[.int .i64 0, .int .i64 0, .slice none 0 0] 25)) w' → w'.heap[w.heap.size]? = some (.cells #[.int .i64 x, .int .i64 y, .slice (some ⟨b0, off, none⟩) (l.length) cap] 25 (0, 0)) ∧ w'.heap[w.heap.size + 1]? = some (.cells #[.int .i64 0, .int .i64 0, .slice none 0 0] 25 (0, 0))) := fun w' hf =>
    ⟨blkOld hf (blkUp (heap_alloc_new _ _) _), blkOld hf (by have := heap_alloc_new (w.alloc (.cells #[.int .i64 x, .int .i64 y, .slice (some ⟨b0, off, none⟩) (l.length) cap] 25)) (.cells #[.int .i64 0, .int .i64 0, .slice none 0 0] 25); rwa [World.size_alloc] at this)⟩
  have HLL : Hid (∀ u g c, OwnW u g c l = u.ownsRow 0 62 1 (.slice (some ⟨g, 0, none⟩) l.length c) l.length (wordCells l)) := fun _ _ _ => rfl
  generalize hnews : wordCells l = news at *
  generalize hNN : l.length = N at *
  clear hnews hNN HLL
  clear hcell hcc
  go_enter Try.func32, Try.ntmps32
  go_wp2_with fail
  generalize hw0 : (w.alloc (.cells #[.int .i64 x, .int .i64 y, .slice (some ⟨b0, off, none⟩) N cap] 25)).alloc (.cells #[.int .i64 0, .int .i64 0, .slice none 0 0] 25) = w0 at *
  have HSZ : Hid (w0.heap.size = w.heap.size + 2) := by show _ = _; rw [← hw0]; simp
  clear hw0
  obtain ⟨hb1, hb2⟩ := HB1.out w0 (Fr.refl _ _)
  obtain ⟨c0, c1, c2, _⟩ := cell_of_three hb1
  obtain ⟨d0, d1, d2, df⟩ := cell_of_three hb2
  have z0 := df 0
  have z1 := df 1
  have z2 := df 2
  clear hb1 hb2 df
  have KC : Hid (∀ (w1 : World), w0.drew.grownBy w1 none → Fr (fun _ => False) w0 w1) := fun w1 hgrow => ((Fr.refl _ _).drew).grown hgrow (fun k hk _ => by cases hk)
  go_region_law ((refine step_append_lies _ (by rfl) _ _ _ (by rfl) 0 62 i0 (.int .u64 0) 1 8 Try.underlying23 hi hz0 hz1 hz2 rfl (by decide) (.slice none 0 0) 0 [] (by rfl) (World.ownsRow_nil _ _ _ _) ⟨b0, off, none⟩ N cap news (by rfl) HLN.out.1 (HN.out _ (HA0.out.drew)) HLN.out.2 hpos (by unfold maxLen; omega) (by omega) (Nat.zero_le _) w0.heap.size (by rfl) ?_; intro g' cap' w1 hown1 hgrow hat hlt; have HF1 : Hid (Fr (fun _ => False) w0 w1) := KC.out w1 hgrow; have HO1 : Hid (OwnW w1 g' cap' l) := HDEF.out _ _ _ hown1; have HAT : Hid (g' = w0.heap.size) := (by rcases hat with h | h; cases h; exact h); obtain ⟨kb1, kb2⟩ := HB1.out w1 HF1.out; obtain ⟨k0, k1, k2, _⟩ := cell_of_three kb1; obtain ⟨l0, l1, l2, lf⟩ := cell_of_three kb2; have y0 := lf 0; have y1 := lf 1; have y2 := lf 2; have HKB : Hid (w1.heap[w.heap.size + 1]? = some (.cells #[.int .i64 0, .int .i64 0, .slice none 0 0] 25 (0, 0))) := kb2; clear hgrow hown1 hat kb1 kb2 lf))
  all_goals
    go_wp2_with fail
    have hb5 := set3_cells HKB.out (.int .i64 x) (.int .i64 y) (.slice (some ⟨g', 0, none⟩) N cap')
    have hfz : Fr (fun k => k = w.heap.size + 1) w1 (((w1.setCell ⟨w.heap.size + 1, 0, none⟩ (.int .i64 x)).setCell ⟨w.heap.size + 1, 1, none⟩ (.int .i64 y)).setCell ⟨w.heap.size + 1, 2, none⟩ (.slice (some ⟨g', 0, none⟩) N cap')) := (((Fr.refl (fun k => k = w.heap.size + 1) w1).setCell (p := ⟨w.heap.size + 1, 0, none⟩) (fun _ => rfl) _).setCell (p := ⟨w.heap.size + 1, 1, none⟩) (fun _ => rfl) _).setCell (p := ⟨w.heap.size + 1, 2, none⟩) (fun _ => rfl) _
    have hsz := HSZ.out
    have hat := HAT.out
    have HR : Hid (OwnW (((w1.setCell ⟨w.heap.size + 1, 0, none⟩ (.int .i64 x)).setCell ⟨w.heap.size + 1, 1, none⟩ (.int .i64 y)).setCell ⟨w.heap.size + 1, 2, none⟩ (.slice (some ⟨g', 0, none⟩) N cap')) g' cap' l) := HO1.out.kept hfz (by omega)
    have HF : Hid (Fr (fun _ => False) w (((w1.setCell ⟨w.heap.size + 1, 0, none⟩ (.int .i64 x)).setCell ⟨w.heap.size + 1, 1, none⟩ (.int .i64 y)).setCell ⟨w.heap.size + 1, 2, none⟩ (.slice (some ⟨g', 0, none⟩) N cap'))) := (HA0.out.trans HF1.out (fun _ _ h => h)).trans hfz (fun i hi e => by omega)
    generalize (((w1.setCell ⟨w.heap.size + 1, 0, none⟩ (.int .i64 x)).setCell ⟨w.heap.size + 1, 1, none⟩ (.int .i64 y)).setCell ⟨w.heap.size + 1, 2, none⟩ (.slice (some ⟨g', 0, none⟩) N cap')) = w5 at *
    obtain ⟨m0, m1, m2, _⟩ := cell_of_three hb5
    refine bodyPost_ret (v := .agg #[.int .i64 x, .int .i64 y, (.slice (some ⟨g', 0, none⟩) N cap')]) (by simp [results, Try.results32, go_sem, m0, m1, m2]) rfl ?_
    exact ⟨g', cap', rfl, HR.out, HF.out, by omega⟩

end Go.Proofs.Ytgpciopoionmeaa
