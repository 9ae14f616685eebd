/- The document's own 'White', 'EqBitmap'. -/
import Derived.Test.YtodgdbbhllejkaaKOw
namespace Go.Proofs.Ytodgdbbhllejkaa
open Go.RowKit

set_option maxRecDepth 100000 in
set_option maxHeartbeats 1000000 in
theorem zwhite_any (W H : Nat) (w : World) (h1 : 1 ≤ W) (h2 : 1 ≤ H) (h3 : W * H ≤ 1048576) :
    Calls Try.prog 26 #[.int .i64 W, .int .i64 H] w fun e w' => ∃ g, e = .returned (.agg #[.int .i64 W, .int .i64 H, .slice (some ⟨g, 0, none⟩) (H * stride W) (H * stride W)]) ∧ RowAt w' g (H * stride W) W H (fun _ _ => false) ∧ Fr (fun _ => False) w w' ∧ w.heap.size ≤ g := by
  obtain ⟨i0, hi, hz0, hz1, hz2⟩ := info_parts Try.infoUw
  obtain ⟨f1, f2, f3⟩ := size_facts h1 h2 h3
  have HR : Hid (wordCells (render W H (fun _ _ => false)) = List.replicate (H * stride W) (.int .u64 0)) := by show _ = _; rw [render_white, wordCells_replicate]
  unfold RowAt
  rw [HR.out]
  clear h3 HR
  go_enter Try.func26, Try.ntmps26
  go_wp2_with fail
  refine (words_any W _ f1).mono ?_
  rintro e w1 ⟨rfl, hw1⟩
  have hm1 : (H : Int) * (stride W : Int) = ((H * stride W : Nat) : Int) := by push_cast; rfl
  obtain ⟨N, hN⟩ : ∃ N, N = H * stride W := ⟨_, rfl⟩
  rw [← hN] at hm1 f3
  have HSN : Hid (N = H * stride W) := hN
  clear hN
  have HF1 : Hid (Fr (fun _ => False) w w1) := by rw [hw1]; exact (Fr.refl _ _).alloc _
  have HB1 : Hid (w1.heap[w.heap.size]? = some (.cells #[.int .i64 0, .int .i64 0, .slice none 0 0] 48 (0, 0))) := by show _ = _; rw [hw1]; exact heap_alloc_new _ _
  clear hw1
  go_wp2_with (first | (at_make; refine wpList_make_full _ rfl _ _ 46 rfl w1.heap.size 23 i0 (.int .u64 0) 1 Try.underlying46 hi hz0 hz1 .i64 .i64 _ _ N rfl rfl ?_ ?_ ?_ ?_ ?_ ?_))
  · omega
  · omega
  · rw [hz2]; omega
  · unfold maxLen; omega
  · omega
  · intro w2 hown hgrow
    have HO : Hid (w2.ownsRow w1.heap.size 23 1 (.slice (some ⟨w1.heap.size, 0, none⟩) N N) N (List.replicate N (.int .u64 0))) := by rw [← toList_madeCells_one]; exact hown
    have hf2 : Fr (fun _ => False) w1 w2 := (Fr.refl _ _).grown hgrow (fun _ e _ => by cases e)
    have hs1 : w.heap.size < w1.heap.size := lt_of_block HB1.out
    have hbk : w2.heap[w.heap.size]? = some (.cells #[.int .i64 0, .int .i64 0, .slice none 0 0] 48 (0, 0)) := by rw [hf2.block _ hs1 (fun hh => hh)]; exact HB1.out
    have HF2 : Hid (Fr (fun _ => False) w w2) := HF1.out.trans hf2 (fun _ _ hh => hh)
    obtain ⟨z0, z1, z2, zf⟩ := cell_of_three hbk
    have hfz : Fr (fun k => k = w.heap.size) w2 (((w2.setCell ⟨w.heap.size, 0, none⟩ (.int .i64 W)).setCell ⟨w.heap.size, 1, none⟩ (.int .i64 H)).setCell ⟨w.heap.size, 2, none⟩ (.slice (some ⟨w1.heap.size, 0, none⟩) N N)) := (((Fr.refl (fun k => k = w.heap.size) w2).setCell (p := ⟨w.heap.size, 0, none⟩) (fun _ => rfl) _).setCell (p := ⟨w.heap.size, 1, none⟩) (fun _ => rfl) _).setCell (p := ⟨w.heap.size, 2, none⟩) (fun _ => rfl) _
    have HO3 : Hid ((((w2.setCell ⟨w.heap.size, 0, none⟩ (.int .i64 W)).setCell ⟨w.heap.size, 1, none⟩ (.int .i64 H)).setCell ⟨w.heap.size, 2, none⟩ (.slice (some ⟨w1.heap.size, 0, none⟩) N N)).ownsRow 0 23 1 (.slice (some ⟨w1.heap.size, 0, none⟩) N N) N (List.replicate N (.int .u64 0))) := row_kept (ownsRow_base HO.out (fun _ _ => Nat.zero_le _)) hfz (fun k hk => by simp [Value.ownBlock] at hk; omega)
    have HF3 : Hid (Fr (fun _ => False) w (((w2.setCell ⟨w.heap.size, 0, none⟩ (.int .i64 W)).setCell ⟨w.heap.size, 1, none⟩ (.int .i64 H)).setCell ⟨w.heap.size, 2, none⟩ (.slice (some ⟨w1.heap.size, 0, none⟩) N N))) := HF2.out.trans hfz (fun i hi hh => by omega)
    have hb5 : (((w2.setCell ⟨w.heap.size, 0, none⟩ (.int .i64 W)).setCell ⟨w.heap.size, 1, none⟩ (.int .i64 H)).setCell ⟨w.heap.size, 2, none⟩ (.slice (some ⟨w1.heap.size, 0, none⟩) N N)).heap[w.heap.size]? = some (.cells #[.int .i64 W, .int .i64 H, .slice (some ⟨w1.heap.size, 0, none⟩) N N] 48 (0, 0)) := by
      simp [World.setCell, Array.getElem?_modify, hbk]
    clear hfz hgrow hown hf2 hbk HO HF2
    go_wp2_with fail
    generalize (((w2.setCell ⟨w.heap.size, 0, none⟩ (.int .i64 W)).setCell ⟨w.heap.size, 1, none⟩ (.int .i64 H)).setCell ⟨w.heap.size, 2, none⟩ (.slice (some ⟨w1.heap.size, 0, none⟩) N N)) = w5 at HO3 HF3 hb5 ⊢
    obtain ⟨y0, y1, y2, yf⟩ := cell_of_three hb5
    clear hb5 yf z0 z1 z2 zf
    go_wp2_with fail
    (try simp only [Exit.inBlock, Exit.then])
    refine bodyPost_ret (by simp [results, Try.results26, go_sem, y0, y1, y2]; rfl) rfl ?_
    rw [← HSN.out]
    exact ⟨w1.heap.size, rfl, HO3.out, HF3.out, by omega⟩

theorem eqw_any (v u : Value) (la lb : List Nat) (w : World) (ha : Seen w v la) (hb : Seen w u lb) :
    Calls Try.prog 38 #[v, u] w fun e w' => e = .returned (.bool (decide (la = lb))) ∧ Fr (fun _ => False) w w' := by
  by_cases hl : la.length = lb.length
  · refine (eqw_same v u la lb w ha hb hl _ rfl).mono ?_
    rintro e w' ⟨rfl, q, rfl⟩
    exact ⟨rfl, (Fr.refl _ _).drewN q⟩
  · refine (eqw_len v u la lb w ha hb hl).mono ?_
    rintro e w' ⟨rfl, rfl⟩
    rw [decide_eq_false (fun h => hl (by rw [h]))]
    exact ⟨rfl, Fr.refl _ _⟩

set_option maxRecDepth 100000 in
set_option maxHeartbeats 1000000 in
theorem eqBitmap_any (W H W' H' : Nat) (v u : Value) (la lb : List Nat) (w : World) (ha : Seen w v la) (hb : Seen w u lb) :
    Calls Try.prog 23 #[.agg #[.int .i64 W, .int .i64 H, v], .agg #[.int .i64 W', .int .i64 H', u]] w fun e w' => e = .returned (.bool (decide (W = W' ∧ H = H' ∧ la = lb))) ∧ Fr (fun _ => False) w w' := by
  have HQ : Hid (∀ w', Fr (fun _ => False) w w' → Calls Try.prog 38 #[v, u] w' fun e w'' => e = .returned (.bool (decide (la = lb))) ∧ Fr (fun _ => False) w' w'') := fun w' hf => eqw_any v u la lb w' (ha.kept hf) (hb.kept hf)
  obtain ⟨ao, ca, rfl, hla, _⟩ := ha
  obtain ⟨bo, cb, rfl, hlb, _⟩ := hb
  by_cases h1 : W = W'
  · by_cases h2 : H = H'
    · subst h1; subst h2
      have e1 : ((W : Int) == (W : Int)) = true := by simp
      have e2 : ((H : Int) == (H : Int)) = true := by simp
      have HD : Hid (decide (W = W ∧ H = H ∧ la = lb) = decide (la = lb)) := decide_eq_decide.2 ⟨fun h => h.2.2, fun h => ⟨rfl, rfl, h⟩⟩
      rw [HD.out]
      generalize decide (la = lb) = bb at *
      go_enter Try.func23, Try.ntmps23
      go_wp2_with fail
      refine (HQ.out _ (((Fr.refl _ _).alloc _).alloc _)).mono ?_
      rintro e w1 ⟨rfl, hf1⟩
      have HF : Hid (Fr (fun _ => False) w w1) := ((((Fr.refl _ _).alloc _).alloc _)).trans hf1 (fun _ _ h => h)
      clear hf1
      go_wp2_with fail
      go_ret
      exact ⟨rfl, HF.out⟩
    · subst h1
      have e1 : ((W : Int) == (W : Int)) = true := by simp
      have e2 : ((H : Int) == (H' : Int)) = false := by rw [beq_eq_false_iff_ne]; omega
      have e3 : decide ((H : Int) = (H' : Int)) = false := decide_eq_false (by omega)
      have HD : Hid (decide (W = W ∧ H = H' ∧ la = lb) = false) := decide_eq_false (fun h => h2 h.2.1)
      rw [HD.out]
      have HF : Hid (∀ o o', Fr (fun _ => False) w ((w.alloc o).alloc o')) := fun o o' => ((Fr.refl _ _).alloc _).alloc _
      go_enter Try.func23, Try.ntmps23
      go_wp2_with fail
      go_ret
      exact ⟨rfl, by first | exact HF.out _ _ | exact (HF.out _ _).drew | exact (HF.out _ _).drewN _⟩
  · have e1 : ((W : Int) == (W' : Int)) = false := by rw [beq_eq_false_iff_ne]; omega
    have e3 : decide ((W : Int) = (W' : Int)) = false := decide_eq_false (by omega)
    have HD : Hid (decide (W = W' ∧ H = H' ∧ la = lb) = false) := decide_eq_false (fun h => h1 h.1)
    rw [HD.out]
    have HF : Hid (∀ o o', Fr (fun _ => False) w ((w.alloc o).alloc o')) := fun o o' => ((Fr.refl _ _).alloc _).alloc _
    go_enter Try.func23, Try.ntmps23
    go_wp2_with fail
    go_ret
    exact ⟨rfl, by first | exact HF.out _ _ | exact (HF.out _ _).drew | exact (HF.out _ _).drewN _⟩

end Go.Proofs.Ytodgdbbhllejkaa
