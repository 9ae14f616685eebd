/- The document's own 'White', 'EqBitmap'. -/
import Derived.Test.YtodgdbbhllejkabOw
namespace Go.Proofs.Ytodgdbbhllejkab
open Go.RowKit

set_option maxRecDepth 100000 in
set_option maxHeartbeats 1000000 in
theorem zwhite_any (W H : Nat) (w : World) (h1 : 1 ≤ W) (h2 : 1 ≤ H) (h3 : W * H ≤ 1048576) :
    Calls Try.prog 5 #[.int .i64 W, .int .i64 H] w fun e w' => ∃ g, e = .returned (.agg #[.int .i64 W, .int .i64 H, .slice (some ⟨g, 0, none⟩) (H * stride W) (H * stride W)]) ∧ RowAt w' g (H * stride W) W H (fun _ _ => false) ∧ Fr (fun _ => False) w w' ∧ w.heap.size ≤ g := by
  obtain ⟨i0, hi, hz0, hz1, hz2⟩ := info_parts Try.infoUw
  obtain ⟨f1, f2, f3⟩ := size_facts h1 h2 h3
  have HR : Hid (wordCells (render W H (fun _ _ => false)) = List.replicate (H * stride W) (.int .u64 0)) := by show _ = _; rw [render_white, wordCells_replicate]
  unfold RowAt
  rw [HR.out]
  clear h3 HR
  go_enter Try.func5, Try.ntmps5
  go_wp2_with fail
  refine (words_any W _ f1).mono ?_
  rintro e w1 ⟨rfl, hw1⟩
  have hm1 : (H : Int) * (stride W : Int) = ((H * stride W : Nat) : Int) := by push_cast; rfl
  obtain ⟨N, hN⟩ : ∃ N, N = H * stride W := ⟨_, rfl⟩
  rw [← hN] at hm1 f3
  have HSN : Hid (N = H * stride W) := hN
  clear hN
  have HF1 : Hid (Fr (fun _ => False) w w1) := by rw [hw1]; exact (Fr.refl _ _).alloc _
  have HB1 : Hid (w1.heap[w.heap.size]? = some (.cells #[.int .i64 0, .int .i64 0, .slice none 0 0] 27 (0, 0))) := by show _ = _; rw [hw1]; exact heap_alloc_new _ _
  clear hw1
  go_wp2_with (first | (at_make; refine wpList_make_full _ rfl _ _ 25 rfl w1.heap.size 23 i0 (.int .u64 0) 1 Try.underlying25 hi hz0 hz1 .i64 .i64 _ _ N rfl rfl ?_ ?_ ?_ ?_ ?_ ?_))
  · omega
  · omega
  · rw [hz2]; omega
  · unfold maxLen; omega
  · omega
  · intro w2 hown hgrow
    have HO : Hid (w2.ownsRow w1.heap.size 23 1 (.slice (some ⟨w1.heap.size, 0, none⟩) N N) N (List.replicate N (.int .u64 0))) := by rw [← toList_madeCells_one]; exact hown
    have hf2 : Fr (fun _ => False) w1 w2 := (Fr.refl _ _).grown hgrow (fun _ e _ => by cases e)
    have hs1 : w.heap.size < w1.heap.size := lt_of_block HB1.out
    have hbk : w2.heap[w.heap.size]? = some (.cells #[.int .i64 0, .int .i64 0, .slice none 0 0] 27 (0, 0)) := by rw [hf2.block _ hs1 (fun hh => hh)]; exact HB1.out
    have HF2 : Hid (Fr (fun _ => False) w w2) := HF1.out.trans hf2 (fun _ _ hh => hh)
    obtain ⟨z0, z1, z2, zf⟩ := cell_of_three hbk
    have hfz : Fr (fun k => k = w.heap.size) w2 (((w2.setCell ⟨w.heap.size, 0, none⟩ (.int .i64 W)).setCell ⟨w.heap.size, 1, none⟩ (.int .i64 H)).setCell ⟨w.heap.size, 2, none⟩ (.slice (some ⟨w1.heap.size, 0, none⟩) N N)) := (((Fr.refl (fun k => k = w.heap.size) w2).setCell (p := ⟨w.heap.size, 0, none⟩) (fun _ => rfl) _).setCell (p := ⟨w.heap.size, 1, none⟩) (fun _ => rfl) _).setCell (p := ⟨w.heap.size, 2, none⟩) (fun _ => rfl) _
    have HO3 : Hid ((((w2.setCell ⟨w.heap.size, 0, none⟩ (.int .i64 W)).setCell ⟨w.heap.size, 1, none⟩ (.int .i64 H)).setCell ⟨w.heap.size, 2, none⟩ (.slice (some ⟨w1.heap.size, 0, none⟩) N N)).ownsRow 0 23 1 (.slice (some ⟨w1.heap.size, 0, none⟩) N N) N (List.replicate N (.int .u64 0))) := row_kept (ownsRow_base HO.out (fun _ _ => Nat.zero_le _)) hfz (fun k hk => by simp [Value.ownBlock] at hk; omega)
    have HF3 : Hid (Fr (fun _ => False) w (((w2.setCell ⟨w.heap.size, 0, none⟩ (.int .i64 W)).setCell ⟨w.heap.size, 1, none⟩ (.int .i64 H)).setCell ⟨w.heap.size, 2, none⟩ (.slice (some ⟨w1.heap.size, 0, none⟩) N N))) := HF2.out.trans hfz (fun i hi hh => by omega)
    have hb5 : (((w2.setCell ⟨w.heap.size, 0, none⟩ (.int .i64 W)).setCell ⟨w.heap.size, 1, none⟩ (.int .i64 H)).setCell ⟨w.heap.size, 2, none⟩ (.slice (some ⟨w1.heap.size, 0, none⟩) N N)).heap[w.heap.size]? = some (.cells #[.int .i64 W, .int .i64 H, .slice (some ⟨w1.heap.size, 0, none⟩) N N] 27 (0, 0)) := by
      simp [World.setCell, Array.getElem?_modify, hbk]
    clear hfz hgrow hown hf2 hbk HO HF2
    go_wp2_with fail
    generalize (((w2.setCell ⟨w.heap.size, 0, none⟩ (.int .i64 W)).setCell ⟨w.heap.size, 1, none⟩ (.int .i64 H)).setCell ⟨w.heap.size, 2, none⟩ (.slice (some ⟨w1.heap.size, 0, none⟩) N N)) = w5 at HO3 HF3 hb5 ⊢
    obtain ⟨y0, y1, y2, yf⟩ := cell_of_three hb5
    clear hb5 yf z0 z1 z2 zf
    go_wp2_with fail
    (try simp only [Exit.inBlock, Exit.then])
    refine bodyPost_ret (by simp [results, Try.results5, go_sem, y0, y1, y2]; rfl) rfl ?_
    rw [← HSN.out]
    exact ⟨w1.heap.size, rfl, HO3.out, HF3.out, by omega⟩

end Go.Proofs.Ytodgdbbhllejkab
