/- What is encoded is decoded again; 'wakes'. -/
import Derived.Test.YtkggdnkmaldmlabKEd
import Derived.BigQuiet
namespace Go.Proofs.Ytkggdnkmaldmlab
open Go.RowKit

theorem rowsD_front (base t W : Nat) (skip : Bool) (P : Pxs) (h : Nat) : ∀ k, ∃ post, rowsD base t W skip P (h + k) = rowsD base t W skip P h ++ post
  | 0 => ⟨[], by simp⟩
  | k + 1 => by
    obtain ⟨post, e⟩ := rowsD_front base t W skip P h k
    refine ⟨post ++ rowD base t W skip P (h + k), ?_⟩
    rw [← Nat.add_assoc, rowsD, e, List.append_assoc]
theorem cur_all (W : Nat) (P : Pxs) (H x y : Nat) (hx : x < W) (hy : y < H) : cur W P H 0 x y = P x y := by
  unfold cur; rw [if_pos ⟨hx, Or.inl hy⟩]
/-- The first rows of what was encoded. -/
theorem gback (W H h t : Nat) (skip : Bool) (P : Pxs) (ht : t < 4) (hm : H * (W + 1) ≤ 16777216) (hh : h ≤ H) :
    (gotW (codedB (sizeT t + 1) (rowsD 0 t W skip P H)) 0 t W skip h (newD (codedB (sizeT t + 1) (rowsD 0 t W skip P H)) (sizeT t + 1))).2 = cur W P h 0 := by
  have hZ := sizeT_le t ht
  have hl := rowsD_length 0 t W skip P H
  obtain ⟨post, e⟩ := rowsD_front 0 t W skip P h (H - h)
  rw [show h + (H - h) = H by omega] at e
  have := thrW_back (n := sizeT t + 1) (L := rowsD 0 t W skip P H) (by omega) (by omega) (rowsD_bits 0 t W skip P H) (by omega) 0 t W skip ht P [] h ⟨post, by rw [List.nil_append]; exact e⟩
  unfold gotW
  have e0 : decL (sizeT t + 1) (rowsD 0 t W skip P H) ([] : List (Int × Nat)).length = newD (codedB (sizeT t + 1) (rowsD 0 t W skip P H)) (sizeT t + 1) := rfl
  rw [e0] at this
  rw [this]
theorem runL_runC (n : Nat) (L : List (Int × Nat)) : runL (newP n) L = runC n (kOf L) (dOf L) L.length := (runC_all n L).symm
theorem flushP_lt {s : Cs} (h : Cok s) : ∀ y ∈ flushP s, y < 256 := by
  intro y hy
  have h2 := (flush_cw h.cw).2
  unfold flushP at hy
  split at hy
  · exact h2.blt y (List.mem_of_mem_drop hy)
  · have := List.mem_of_mem_drop hy
    rw [List.mem_append, List.mem_singleton] at this
    rcases this with a | a
    · exact h2.blt y a
    · rw [a]; exact h2.llt
theorem codedB_lt {n : Nat} (h1 : 1 ≤ n) (h2 : n ≤ 131072) (L : List (Int × Nat)) (hm : L.length ≤ 16777216) : ∀ y ∈ codedB n L, y < 256 := by
  have := (runL_ok (newP_ok (n := n) (by omega) h2) L (by show 0 + _ ≤ _; omega)).1
  exact flushP_lt this.ok
theorem codedB_pos (n : Nat) (L : List (Int × Nat)) : 0 < (codedB n L).length := by
  unfold codedB flushP
  have := flush_two (runL (newP n) L).s
  split
  · rw [List.length_drop]; omega
  · rw [List.length_drop, List.length_append]; omega
theorem RowAt.bm {w : World} {g cap W H : Nat} {P : Pxs} (h : RowAt w g cap W H P) (h1 : 1 ≤ W) (h2 : 1 ≤ H) (h3 : W * H ≤ 1048576) : Bm w (.slice (some ⟨g, 0, none⟩) (H * stride W) cap) W H P := by
  obtain ⟨_, _, f3⟩ := size_facts h1 h2 h3
  obtain ⟨cur, _, a, b, _, _⟩ := h.cur
  refine ⟨h.seen f3, ?_, h1, h2, h3⟩
  intro ao n c e
  simp only [Value.slice.injEq] at e
  obtain ⟨_, rfl, rfl⟩ := e
  exact ⟨a, b⟩

/-- The bitmap of 'wakes'. -/
def wakeL : List Nat := [12105675798371893248, 12105675798371893248]
theorem wake_render : render 5 2 (pixOf 5 wakeL) = wakeL := by decide +kernel

set_option maxRecDepth 100000 in
set_option maxHeartbeats 4000000 in
theorem wakes7 (w : World) : Calls Try.prog 12 #[] w fun e w' => e = .returned (.bool true) ∧ Fr (fun _ => False) w w' := by
  have HBm : Hid (∀ (w' : World) (b : Nat), w'.heap[b]? = some (.cells #[.int .u64 12105675798371893248, .int .u64 12105675798371893248] 67 (0, 0)) → Bm w' (.slice (some ⟨b, 0, none⟩) 2 2) 5 2 (pixOf 5 wakeL)) := fun w' b hb => by
    refine ⟨⟨some ⟨b, 0, none⟩, 2, by rw [wake_render]; rfl, by rw [wake_render]; decide, fun _ => ⟨b, 0, rfl, fun j hj => ?_⟩⟩, ?_, by decide, by decide, by decide⟩
    · rw [wake_render] at hj ⊢
      have hj' : j < 2 := hj
      rcases (show j = 0 ∨ j = 1 by omega) with rfl | rfl <;> simp [World.cell?, hb, wakeL]
    · intro ao n c e
      simp only [Value.slice.injEq] at e
      obtain ⟨_, rfl, rfl⟩ := e
      exact ⟨by decide, by unfold maxLen; decide⟩
  have HEn : Hid (∀ (w' : World) (b : Nat), w'.heap[b]? = some (.cells #[.int .u64 12105675798371893248, .int .u64 12105675798371893248] 67 (0, 0)) → Calls Try.prog 15 #[.agg #[.int .i64 5, .int .i64 2, .slice (some ⟨b, 0, none⟩) 2 2], .int .i64 2, .bool true] w' fun e w'' => ∃ g n cap, e = .returned (.tuple #[.slice (some ⟨g, 1, none⟩) n cap, .int .i64 0]) ∧ SeenAt w'' (.slice (some ⟨g, 1, none⟩) n cap) (codedB (sizeT 2 + 1) (rowsD 0 2 5 true (pixOf 5 wakeL) 2)) ∧ Fr (fun _ => False) w' w'' ∧ w'.heap.size ≤ g) := fun w' b hb => gencode_ok 5 2 _ (pixOf 5 wakeL) 2 true w' (HBm.out w' b hb) (by decide) (by decide)
  have HDe : Hid (∀ (w' : World) (g n cap : Nat), SeenAt w' (.slice (some ⟨g, 1, none⟩) n cap) (codedB (sizeT 2 + 1) (rowsD 0 2 5 true (pixOf 5 wakeL) 2)) → Calls Try.prog 34 #[.slice (some ⟨g, 1, none⟩) n cap, .int .i64 5, .int .i64 2, .int .i64 2, .bool true] w' fun e w'' => ∃ g2 cap2, e = .returned (.tuple #[.agg #[.int .i64 5, .int .i64 2, .slice (some ⟨g2, 0, none⟩) 2 cap2], .int .i64 0]) ∧ Seen w'' (.slice (some ⟨g2, 0, none⟩) 2 cap2) wakeL ∧ Fr (fun _ => False) w' w'') := fun w' g n cap hs => by
    have hl := rowsD_length 0 2 5 true (pixOf 5 wakeL) 2
    refine (gdecode_ok _ _ 5 2 2 true w' hs (Or.inr ⟨_, _, _, rfl⟩) (codedB_lt (by decide) (by decide) _ (by omega)) (by decide) (by decide) (by decide) (by decide) (by decide)).mono ?_
    rintro e w2 ⟨g2, cap2, rfl, hr, _, hf⟩
    refine ⟨g2, cap2, rfl, ?_, hf⟩
    have := hr.seen (by decide)
    rw [gback 5 2 2 2 true (pixOf 5 wakeL) (by decide) (by decide) (by decide), render_congr (fun x y hx hy => cur_all 5 (pixOf 5 wakeL) 2 x y hx hy), wake_render] at this
    exact this
  have HSe : Hid (∀ (w' : World) (b : Nat), w'.heap[b]? = some (.cells #[.int .u64 12105675798371893248, .int .u64 12105675798371893248] 67 (0, 0)) → Seen w' (.slice (some ⟨b, 0, none⟩) 2 2) wakeL) := fun w' b hb => by
    have := (HBm.out w' b hb).seen
    rwa [wake_render] at this
  have HLn : Hid (∀ (w' : World) (g n cap : Nat), SeenAt w' (.slice (some ⟨g, 1, none⟩) n cap) (codedB (sizeT 2 + 1) (rowsD 0 2 5 true (pixOf 5 wakeL) 2)) → 0 < n) := fun w' g n cap hs => by
    obtain ⟨ao, c, e, _, _⟩ := hs
    simp only [Value.slice.injEq] at e
    have := codedB_pos (sizeT 2 + 1) (rowsD 0 2 5 true (pixOf 5 wakeL) 2)
    omega
  generalize codedB (sizeT 2 + 1) (rowsD 0 2 5 true (pixOf 5 wakeL) 2) = B at *
  generalize hwl : wakeL = L at *
  clear hwl
  go_enter Try.func12, Try.ntmps12
  go_wp2_with fail
  have HB0 : Hid (∀ w', Fr (fun _ => False) ((w.alloc (.cells #[.int .u64 12105675798371893248, .int .u64 12105675798371893248] 67)).alloc (.cells #[.int .i64 5, .int .i64 2, .slice (some ⟨w.heap.size, 0, none⟩) 2 2] 24)) w' → w'.heap[w.heap.size]? = some (.cells #[.int .u64 12105675798371893248, .int .u64 12105675798371893248] 67 (0, 0)) ∧ w'.heap[w.heap.size + 1]? = some (.cells #[.int .i64 5, .int .i64 2, .slice (some ⟨w.heap.size, 0, none⟩) 2 2] 24 (0, 0))) := fun w' f => by
    refine ⟨?_, ?_⟩
    · rw [f.block _ (by simp only [World.size_alloc]; omega) (fun h => h), Below.heap_alloc _ _ _ (by simp)]; exact heap_alloc_new w _
    · rw [f.block _ (by simp) (fun h => h)]
      have := heap_alloc_new (w.alloc (.cells #[.int .u64 12105675798371893248, .int .u64 12105675798371893248] 67)) (.cells #[.int .i64 5, .int .i64 2, .slice (some ⟨w.heap.size, 0, none⟩) 2 2] 24)
      rwa [World.size_alloc] at this
  have HF0 : Hid (Fr (fun _ => False) w ((w.alloc (.cells #[.int .u64 12105675798371893248, .int .u64 12105675798371893248] 67)).alloc (.cells #[.int .i64 5, .int .i64 2, .slice (some ⟨w.heap.size, 0, none⟩) 2 2] 24))) := ((Fr.refl _ _).alloc _).alloc _
  generalize (w.alloc (.cells #[.int .u64 12105675798371893248, .int .u64 12105675798371893248] 67)).alloc (.cells #[.int .i64 5, .int .i64 2, .slice (some ⟨w.heap.size, 0, none⟩) 2 2] 24) = w0 at *
  refine (HEn.out _ w.heap.size (HB0.out _ (Fr.refl _ _)).1).mono ?_
  rintro e w1 ⟨g, n, cap, rfl, hs1, hf1, hg1⟩
  have hn := HLn.out _ _ _ _ hs1
  have hd1 : decide ((0 : Int) < (n : Int)) = true := decide_eq_true (by omega)
  have HS1 : Hid (SeenAt w1 (.slice (some ⟨g, 1, none⟩) n cap) B) := hs1
  have HF1 : Hid (Fr (fun _ => False) w0 w1) := hf1
  clear hs1 hf1
  go_wp2_with fail
  refine (HDe.out _ g n cap HS1.out).mono ?_
  rintro e w2 ⟨g2, cap2, rfl, hs2, hf2⟩
  have HF2 : Hid (Fr (fun _ => False) w0 (w2.alloc (.cells #[.int .i64 5, .int .i64 2, .slice (some ⟨g2, 0, none⟩) 2 cap2] 24))) := (HF1.out.trans hf2 (fun _ _ h => h)).alloc _
  obtain ⟨b0, b1⟩ := HB0.out _ HF2.out
  obtain ⟨q0, q1, q2, qf⟩ := cell_of_three b1
  obtain ⟨y0, y1, y2, yf⟩ := cell_of_three (heap_alloc_new w2 (.cells #[.int .i64 5, .int .i64 2, .slice (some ⟨g2, 0, none⟩) 2 cap2] 24))
  have HQ : Hid (∀ w', Fr (fun _ => False) (w2.alloc (.cells #[.int .i64 5, .int .i64 2, .slice (some ⟨g2, 0, none⟩) 2 cap2] 24)) w' → Calls Try.prog 35 #[.agg #[.int .i64 5, .int .i64 2, .slice (some ⟨w.heap.size, 0, none⟩) 2 2], .agg #[.int .i64 5, .int .i64 2, .slice (some ⟨g2, 0, none⟩) 2 cap2]] w' fun e w'' => e = .returned (.bool true) ∧ Fr (fun _ => False) w' w'') := fun w' f => by
    have := eqBitmap_any 5 2 5 2 _ _ L L w' ((HSe.out _ _ b0).kept f) ((hs2.kept ((Fr.refl (fun _ => False) w2).alloc _)).kept f)
    simpa [eqB] using this
  clear hs2 hf2 b0 b1 qf yf
  go_wp2_with fail
  refine (HQ.out _ (Fr.refl _ _)).mono ?_
  rintro e w3 ⟨rfl, hf3⟩
  have HF3 : Hid (Fr (fun _ => False) w w3) := HF0.out.trans (HF2.out.trans hf3 (fun _ _ h => h)) (fun _ _ h => h)
  clear hf3
  go_wp2_with fail
  go_ret
  exact ⟨rfl, HF3.out⟩

end Go.Proofs.Ytkggdnkmaldmlab
