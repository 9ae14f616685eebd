/- Package refine: Encode and Decode, of what may be. -/
import Derived.Test.YtmfpoabhmpljgaaK23
import Derived.Test.YtmfpoabhmpljgaaK16
import Derived.BigQuiet
namespace Go.Proofs.Ytmfpoabhmpljgaa
open Go.RowKit

set_option maxRecDepth 100000 in
set_option maxHeartbeats 4000000 in
theorem rfencode_ok (W H : Nat) (v : Value) (P : Pxs) (WR HR : Nat) (vR : Value) (PR : Pxs) (dx dy : Int) (w : World) (hb : Bm w v W H P) (hR : Bm w vR WR HR PR) (hdx : -1048576 ≤ dx ∧ dx ≤ 1048576) (hdy : -1048576 ≤ dy ∧ dy ≤ 1048576) :
    Calls Try.prog 11 #[.agg #[.int .i64 W, .int .i64 H, v], .agg #[.int .i64 WR, .int .i64 HR, vR], .int .i64 dx, .int .i64 dy] w fun e w' => ∃ g n cap, e = .returned (.tuple #[.slice (some ⟨g, 1, none⟩) n cap, .int .i64 0]) ∧ SeenAt w' (.slice (some ⟨g, 1, none⟩) n cap) (codedB 8192 (rowsD (cxR W (refP WR HR PR dx dy)) 0 W P H)) ∧ Fr (fun _ => False) w w' ∧ w.heap.size ≤ g := by
  have h3 := hb.h3
  have HNw : Hid (∀ w', Calls Try.prog 27 #[.int .i64 8192] w' fun e w'' => ∃ bc gc gb, e = .returned (.tuple #[.pointer (some ⟨bc, 0, none⟩), .int .i64 0]) ∧ CoAt w'' bc gc 8192 gb 1 (newP 8192) ∧ Fr (fun _ => False) w' w'' ∧ w'.heap.size ≤ bc ∧ w'.heap.size ≤ gc ∧ w'.heap.size ≤ gb) := fun w' => new_any w' 8192 (by omega) (by omega)
  have HPt : Hid (∀ (w' : World) (bc gc gb : Nat), Fr (fun _ => False) w w' → w.heap.size ≤ bc → w.heap.size ≤ gc → w.heap.size ≤ gb → CoAt w' bc gc 8192 gb 1 (newP 8192) → Calls Try.prog 29 #[.pointer (some ⟨bc, 0, none⟩), .int .i64 0, .agg #[.int .i64 W, .int .i64 H, v], .agg #[.int .i64 WR, .int .i64 HR, vR], .int .i64 dx, .int .i64 dy] w' fun e w'' => e = .returned (.int .i64 0) ∧ ∃ gb' cb', CoAt w'' bc gc 8192 gb' cb' (runL (newP 8192) (rowsD (cxR W (refP WR HR PR dx dy)) 0 W P H)) ∧ Ook (runL (newP 8192) (rowsD (cxR W (refP WR HR PR dx dy)) 0 W P H)) ∧ CStep bc gc gb gb' w' w'') := fun w' bc gc gb f l1 l2 l3 hc =>
    rfput_ok bc gc 8192 gb 1 (newP 8192) 0 W H v P WR HR vR PR dx dy w' hc (newP_ok (by omega) (by omega)) (hb.kept f) (fun w2 f2 => hR.kept (f.trans f2 (fun i hi e => by omega))) hdx hdy (by simp [newP]) (by show 0 + _ ≤ _; rw [Nat.mul_comm]; omega)
  obtain ⟨ao, cv, hv, -, -⟩ := hb.seen
  obtain ⟨ar, cr, hvr, -, -⟩ := hR.seen
  generalize (render W H P).length = n0 at *
  generalize (render WR HR PR).length = n1 at *
  subst hv
  subst hvr
  unfold codedB
  clear hb hR h3 hdx hdy
  generalize hRR : runL (newP 8192) (rowsD (cxR W (refP WR HR PR dx dy)) 0 W P H) = R at *
  clear hRR
  obtain ⟨N0, HNN⟩ : ∃ N0, Hid (N0 = newP 8192) := ⟨_, rfl⟩
  rw [← HNN.out] at HNw HPt
  have HA : Hid (Fr (fun _ => False) w ((w.alloc (.cells #[.int .i64 W, .int .i64 H, .slice ao n0 cv] 26)).alloc (.cells #[.int .i64 WR, .int .i64 HR, .slice ar n1 cr] 26))) := ((Fr.refl _ _).alloc _).alloc _
  have HBX : Hid (∀ w', Fr (fun _ => False) ((w.alloc (.cells #[.int .i64 W, .int .i64 H, .slice ao n0 cv] 26)).alloc (.cells #[.int .i64 WR, .int .i64 HR, .slice ar n1 cr] 26)) w' → w'.heap[w.heap.size]? = some (.cells #[.int .i64 W, .int .i64 H, .slice ao n0 cv] 26 (0, 0)) ∧ w'.heap[w.heap.size + 1]? = some (.cells #[.int .i64 WR, .int .i64 HR, .slice ar n1 cr] 26 (0, 0))) := fun w' f => by
    have q2 := heap_alloc_new (w.alloc (.cells #[.int .i64 W, .int .i64 H, .slice ao n0 cv] 26)) (.cells #[.int .i64 WR, .int .i64 HR, .slice ar n1 cr] 26)
    have q1 := heap_alloc_new w (.cells #[.int .i64 W, .int .i64 H, .slice ao n0 cv] 26)
    simp only [World.size_alloc] at q1 q2
    exact ⟨blkOld f (blkUp q1 _), blkOld f q2⟩
  go_enter Try.func11, Try.ntmps11
  go_wp2_with fail
  generalize (w.alloc (.cells #[.int .i64 W, .int .i64 H, .slice ao n0 cv] 26)).alloc (.cells #[.int .i64 WR, .int .i64 HR, .slice ar n1 cr] 26) = wA at *
  refine (HNw.out _).mono ?_
  rintro e w3 ⟨bc, gc, gb, rfl, hc3, hf3, hb3, hg3, hl3⟩
  have HF3 : Hid (Fr (fun _ => False) wA w3) := hf3
  have HC3 : Hid (CoAt w3 bc gc 8192 gb 1 N0 ∧ w.heap.size ≤ bc ∧ w.heap.size ≤ gc ∧ w.heap.size ≤ gb) := by
    have := HA.out.size
    exact ⟨hc3, by omega, by omega, by omega⟩
  clear hc3 hf3 hb3 hg3 hl3
  obtain ⟨q0, q1, q2, qf⟩ := cell_of_three (HBX.out _ HF3.out).1
  obtain ⟨p0, p1, p2, pf⟩ := cell_of_three (HBX.out _ HF3.out).2
  go_wp2_with fail
  refine (HPt.out _ bc gc gb (HA.out.trans HF3.out (fun _ _ h => h)) HC3.out.2.1 HC3.out.2.2.1 HC3.out.2.2.2 HC3.out.1).mono ?_
  rintro e w4 ⟨rfl, gb', cb', hc4, ho4, hs4⟩
  have H4 : Hid (CoAt w4 bc gc 8192 gb' cb' R ∧ Ook R ∧ Fr (fun _ => False) w w4 ∧ w.heap.size ≤ gb') := by
    obtain ⟨a, b⟩ := CStep.fresh (HA.out.trans HF3.out (fun _ _ h => h)) hs4 HC3.out.2
    exact ⟨hc4, ho4, a, b⟩
  clear hc4 ho4 hs4 q0 q1 q2 qf p0 p1 p2 pf
  go_wp2_with fail
  refine (flush_any _ bc gc 8192 gb' cb' R H4.out.1 H4.out.2.1).mono ?_
  rintro e w5 ⟨gb2, n, cap, rfl, hsn, _, hs5, _, _⟩
  have H5 : Hid (SeenAt w5 (.slice (some ⟨gb2, 1, none⟩) n cap) (flushP R.s) ∧ Fr (fun _ => False) w w5 ∧ w.heap.size ≤ gb2) := by
    obtain ⟨a, b⟩ := CStep.fresh H4.out.2.2.1 hs5 ⟨HC3.out.2.1, HC3.out.2.2.1, H4.out.2.2.2⟩
    exact ⟨hsn, a, b⟩
  clear hsn hs5
  go_wp2_with fail
  go_ret2
  exact ⟨gb2, n, cap, rfl, H5.out.1, H5.out.2.1, H5.out.2.2⟩

set_option maxRecDepth 100000 in
set_option maxHeartbeats 4000000 in
theorem rfdecode_ok (v : Value) (B : List Nat) (W H WR HR : Nat) (vR : Value) (PR : Pxs) (dx dy : Int) (w : World) (hv : SeenAt w v B) (hnil : v = .slice none 0 0 ∨ ∃ a n c, v = .slice (some a) n c) (hB : ∀ y ∈ B, y < 256) (h1 : 1 ≤ W) (h2 : 1 ≤ H) (h3 : W * H ≤ 1048576) (hR : Bm w vR WR HR PR) (hdx : -1048576 ≤ dx ∧ dx ≤ 1048576) (hdy : -1048576 ≤ dy ∧ dy ≤ 1048576) :
    Calls Try.prog 18 #[v, .int .i64 W, .int .i64 H, .agg #[.int .i64 WR, .int .i64 HR, vR], .int .i64 dx, .int .i64 dy] w fun e w' => ∃ g cap, e = .returned (.tuple #[.agg #[.int .i64 W, .int .i64 H, .slice (some ⟨g, 0, none⟩) (H * stride W) cap], .int .i64 0]) ∧ RowAt w' g cap W H (gotW B (cxR W (refP WR HR PR dx dy)) 0 W H (newD B 8192)).2 ∧ w.heap.size ≤ g ∧ Fr (fun _ => False) w w' := by
  have HNw : Hid (∀ w', Fr (fun _ => False) w w' → Calls Try.prog 33 #[v, .int .i64 8192] w' fun e w'' => ∃ bd gc vb, e = .returned (.tuple #[.pointer (some ⟨bd, 0, none⟩), .int .i64 0]) ∧ DeAt w'' bd gc 8192 vb B (newD B 8192) ∧ Fr (fun _ => False) w' w'' ∧ w'.heap.size ≤ bd ∧ w'.heap.size ≤ gc ∧ ∀ k, vb.ownBlock = some k → w'.heap.size ≤ k) := fun w' f => newDecoder_any w' v B 8192 (by omega) (by omega) (hv.kept f (fun _ _ h => h)) hnil hB
  have HGt : Hid (∀ (w' : World) (bd gc : Nat) (vb : Value), Fr (fun _ => False) w w' → w.heap.size ≤ bd → w.heap.size ≤ gc → (∀ k, vb.ownBlock = some k → w.heap.size ≤ k) → DeAt w' bd gc 8192 vb B (newD B 8192) → Calls Try.prog 36 #[.pointer (some ⟨bd, 0, none⟩), .int .i64 0, .int .i64 W, .int .i64 H, .agg #[.int .i64 WR, .int .i64 HR, vR], .int .i64 dx, .int .i64 dy] w' fun e w'' => ∃ g cap, e = .returned (.tuple #[.agg #[.int .i64 W, .int .i64 H, .slice (some ⟨g, 0, none⟩) (H * stride W) cap], .int .i64 0]) ∧ RowAt w'' g cap W H (gotW B (cxR W (refP WR HR PR dx dy)) 0 W H (newD B 8192)).2 ∧ w'.heap.size ≤ g ∧ DeAt w'' bd gc 8192 vb B (gotW B (cxR W (refP WR HR PR dx dy)) 0 W H (newD B 8192)).1 ∧ Eok B (gotW B (cxR W (refP WR HR PR dx dy)) 0 W H (newD B 8192)).1 ∧ Fr (fun k => k = bd ∨ k = gc ∨ vb.ownBlock = some k) w' w'') := fun w' bd gc vb f l1 l2 l3 hd =>
    rfget_ok bd gc 8192 vb B (newD B 8192) 0 W H WR HR vR PR dx dy w' hd (newD_ok (by omega) (by omega) hB) h1 h2 h3 (fun w2 f2 => hR.kept (f.trans f2 (fun i hi e => by
      rcases e with e | e | e
      · omega
      · omega
      · have := l3 _ e; omega))) hdx hdy (by simp [newD]) (by show 0 + _ ≤ _; rw [Nat.mul_comm]; omega)
  obtain ⟨n0, HN0⟩ : ∃ n0, Hid (n0 = H * stride W) := ⟨_, rfl⟩
  rw [← HN0.out] at HGt ⊢
  obtain ⟨R, HRR⟩ : ∃ R, Hid (R = gotW B (cxR W (refP WR HR PR dx dy)) 0 W H (newD B 8192)) := ⟨_, rfl⟩
  rw [← HRR.out] at HGt ⊢
  obtain ⟨ar, cr, hvr, -, -⟩ := hR.seen
  generalize (render WR HR PR).length = n1 at *
  subst hvr
  clear h1 h2 h3 hB hv hR hdx hdy
  obtain ⟨N0, HNN⟩ : ∃ N0, Hid (N0 = newD B 8192) := ⟨_, rfl⟩
  rw [← HNN.out] at HNw HGt
  have HA : Hid (Fr (fun _ => False) w ((w.alloc (.cells #[.int .i64 WR, .int .i64 HR, .slice ar n1 cr] 26)).alloc (.cells #[.int .i64 0, .int .i64 0, .slice none 0 0] 26))) := ((Fr.refl _ _).alloc _).alloc _
  have HBX : Hid (∀ w', Fr (fun _ => False) ((w.alloc (.cells #[.int .i64 WR, .int .i64 HR, .slice ar n1 cr] 26)).alloc (.cells #[.int .i64 0, .int .i64 0, .slice none 0 0] 26)) w' → w'.heap[w.heap.size]? = some (.cells #[.int .i64 WR, .int .i64 HR, .slice ar n1 cr] 26 (0, 0)) ∧ w'.heap[w.heap.size + 1]? = some (.cells #[.int .i64 0, .int .i64 0, .slice none 0 0] 26 (0, 0))) := fun w' f => by
    have q2 := heap_alloc_new (w.alloc (.cells #[.int .i64 WR, .int .i64 HR, .slice ar n1 cr] 26)) (.cells #[.int .i64 0, .int .i64 0, .slice none 0 0] 26)
    have q1 := heap_alloc_new w (.cells #[.int .i64 WR, .int .i64 HR, .slice ar n1 cr] 26)
    simp only [World.size_alloc] at q1 q2
    exact ⟨blkOld f (blkUp q1 _), blkOld f q2⟩
  go_enter Try.func18, Try.ntmps18
  go_wp2_with fail
  generalize ((w.alloc (.cells #[.int .i64 WR, .int .i64 HR, .slice ar n1 cr] 26)).alloc (.cells #[.int .i64 0, .int .i64 0, .slice none 0 0] 26)) = wA at *
  refine (HNw.out _ HA.out).mono ?_
  rintro e w3 ⟨bd, gc, vb, rfl, hd3, hf3, hb3, hg3, hl3⟩
  have HF3 : Hid (Fr (fun _ => False) wA w3) := hf3
  have hwA : w.heap.size + 1 < wA.heap.size := lt_of_block (HBX.out _ (Fr.refl _ _)).2
  have HD3 : Hid (DeAt w3 bd gc 8192 vb B N0 ∧ w.heap.size + 1 < bd ∧ w.heap.size + 1 < gc ∧ (∀ k, vb.ownBlock = some k → w.heap.size + 1 < k)) := ⟨hd3, by omega, by omega, fun k hk => by have := hl3 k hk; omega⟩
  clear hd3 hf3 hb3 hg3 hl3
  obtain ⟨p0, p1, p2, pf⟩ := cell_of_three (HBX.out _ HF3.out).1
  go_wp2_with fail
  refine (HGt.out _ bd gc vb (HA.out.trans HF3.out (fun _ _ h => h)) (by have := HD3.out; omega) (by have := HD3.out; omega) (fun k hk => by have := HD3.out.2.2.2 k hk; omega) HD3.out.1).mono ?_
  rintro e w4 ⟨g, cap, rfl, hr4, hg4, _, _, hf4⟩
  have hg5 : w.heap.size + 1 < g := by have := lt_of_block (HBX.out _ HF3.out).2; omega
  have hb4 : w4.heap[w.heap.size + 1]? = some (.cells #[.int .i64 0, .int .i64 0, .slice none 0 0] 26 (0, 0)) := by
    rw [hf4.block _ (lt_of_block (HBX.out _ HF3.out).2) (fun e => by
      have h9 := HD3.out
      rcases e with e | e | e
      · omega
      · omega
      · have := h9.2.2.2 _ e; omega)]
    exact (HBX.out _ HF3.out).2
  have hset := set3_cells hb4 (.int .i64 W) (.int .i64 H) (.slice (some ⟨g, 0, none⟩) n0 cap)
  have hf9 : Fr (fun k => k = w.heap.size + 1) w4 (((w4.setCell ⟨w.heap.size + 1, 0, none⟩ (.int .i64 W)).setCell ⟨w.heap.size + 1, 1, none⟩ (.int .i64 H)).setCell ⟨w.heap.size + 1, 2, none⟩ (.slice (some ⟨g, 0, none⟩) n0 cap)) := (((Fr.refl (fun k => k = w.heap.size + 1) w4).setCell (p := ⟨w.heap.size + 1, 0, none⟩) (fun _ => rfl) _).setCell (p := ⟨w.heap.size + 1, 1, none⟩) (fun _ => rfl) _).setCell (p := ⟨w.heap.size + 1, 2, none⟩) (fun _ => rfl) _
  obtain ⟨w9, hw9⟩ : ∃ w9, w9 = ((w4.setCell ⟨w.heap.size + 1, 0, none⟩ (.int .i64 W)).setCell ⟨w.heap.size + 1, 1, none⟩ (.int .i64 H)).setCell ⟨w.heap.size + 1, 2, none⟩ (.slice (some ⟨g, 0, none⟩) n0 cap) := ⟨_, rfl⟩
  rw [← hw9] at hset hf9
  obtain ⟨x0, x1, x2, xf⟩ := cell_of_three hset
  have HW9 := (show Hid (w9 = ((w4.setCell ⟨w.heap.size + 1, 0, none⟩ (.int .i64 W)).setCell ⟨w.heap.size + 1, 1, none⟩ (.int .i64 H)).setCell ⟨w.heap.size + 1, 2, none⟩ (.slice (some ⟨g, 0, none⟩) n0 cap)) from hw9)
  have HE : Hid (RowAt w9 g cap W H R.2 ∧ w.heap.size ≤ g ∧ Fr (fun _ => False) w w9) := by
    refine ⟨hr4.kept hf9 (by omega), by omega, ?_⟩
    refine ((HA.out.trans HF3.out (fun _ _ h => h)).trans hf4 (fun i hi e => ?_)).trans hf9 (fun i hi e => by omega)
    have h9 := HD3.out
    rcases e with e | e | e
    · omega
    · omega
    · have := h9.2.2.2 _ e; omega
  obtain ⟨u0, u1, u2, uf⟩ := cell_of_three hb4
  clear hr4 hg4 hf4 hset hf9 xf hb4 hw9 hg5 p0 p1 p2 pf
  go_wp2_with fail
  rw [← HW9.out]
  refine bodyPost_ret (v := .tuple #[.agg #[.int .i64 W, .int .i64 H, .slice (some ⟨g, 0, none⟩) n0 cap], .int .i64 0]) (by simp [results, Try.results18, go_sem, x0, x1, x2]) rfl ?_
  exact ⟨g, cap, rfl, HE.out.1, HE.out.2.1, HE.out.2.2⟩

end Go.Proofs.Ytmfpoabhmpljgaa

/- What is encoded is decoded again; 'wakes'. -/
namespace Go.Proofs.Ytmfpoabhmpljgaa
open Go.RowKit

theorem rowsD_front (cx : Cxf) (base W : Nat) (P : Pxs) (h : Nat) : ∀ k, ∃ post, rowsD cx base W P (h + k) = rowsD cx base W P h ++ post
  | 0 => ⟨[], by simp⟩
  | k + 1 => by
    obtain ⟨post, e⟩ := rowsD_front cx base W P h k
    refine ⟨post ++ pixD cx base P (h + k) W, ?_⟩
    rw [← Nat.add_assoc, rowsD, e, List.append_assoc]
theorem cur_all (W : Nat) (P : Pxs) (H x y : Nat) (hx : x < W) (hy : y < H) : cur W P H 0 x y = P x y := by
  unfold cur; rw [if_pos ⟨hx, Or.inl hy⟩]
/-- The first rows of what was encoded. -/
theorem gback (cx : Cxf) (W H h : Nat) (P : Pxs) (hc : Ahead W cx) (hm : H * W ≤ 16777216) (hh : h ≤ H) :
    (gotW (codedB 8192 (rowsD cx 0 W P H)) cx 0 W h (newD (codedB 8192 (rowsD cx 0 W P H)) 8192)).2 = cur W P h 0 := by
  have hl := rowsD_length cx 0 W P H
  obtain ⟨post, e⟩ := rowsD_front cx 0 W P h (H - h)
  rw [show h + (H - h) = H by omega] at e
  have := thrW_back (n := 8192) (L := rowsD cx 0 W P H) (by omega) (by omega) (rowsD_bits cx 0 W P H) (by omega) cx 0 W hc P [] h ⟨post, by rw [List.nil_append]; exact e⟩
  unfold gotW
  have e0 : decL 8192 (rowsD cx 0 W P H) ([] : List (Int × Nat)).length = newD (codedB 8192 (rowsD cx 0 W P H)) 8192 := rfl
  rw [e0] at this
  rw [this]
theorem runL_runC (n : Nat) (L : List (Int × Nat)) : runL (newP n) L = runC n (kOf L) (dOf L) L.length := (runC_all n L).symm
theorem flushP_lt {s : Cs} (h : Cok s) : ∀ y ∈ flushP s, y < 256 := by
  intro y hy
  have h2 := (flush_cw h.cw).2
  unfold flushP at hy
  split at hy
  · exact h2.blt y (List.mem_of_mem_drop hy)
  · have := List.mem_of_mem_drop hy
    rw [List.mem_append, List.mem_singleton] at this
    rcases this with a | a
    · exact h2.blt y a
    · rw [a]; exact h2.llt
theorem codedB_lt {n : Nat} (h1 : 1 ≤ n) (h2 : n ≤ 131072) (L : List (Int × Nat)) (hm : L.length ≤ 16777216) : ∀ y ∈ codedB n L, y < 256 := by
  have := (runL_ok (newP_ok (n := n) (by omega) h2) L (by show 0 + _ ≤ _; omega)).1
  exact flushP_lt this.ok
theorem codedB_pos (n : Nat) (L : List (Int × Nat)) : 0 < (codedB n L).length := by
  unfold codedB flushP
  have := flush_two (runL (newP n) L).s
  split
  · rw [List.length_drop]; omega
  · rw [List.length_drop, List.length_append]; omega

/-- The bitmaps of 'wakes'. -/
theorem wake_b : render 3 1 (pixOf 3 [4611686018427387904]) = [4611686018427387904] := by decide +kernel
theorem wake_r : render 3 1 (pixOf 3 [6917529027641081856]) = [6917529027641081856] := by decide +kernel
theorem bm_one (w : World) (b X : Nat) (hX : render 3 1 (pixOf 3 [X]) = [X]) (hb : w.heap[b]? = some (.cells #[.int .u64 X] 80 (0, 0))) : Bm w (.slice (some ⟨b, 0, none⟩) 1 1) 3 1 (pixOf 3 [X]) := by
  refine ⟨⟨some ⟨b, 0, none⟩, 1, by rw [hX]; rfl, by rw [hX]; simp, fun _ => ⟨b, 0, rfl, fun j hj => ?_⟩⟩, ?_, by decide, by decide, by decide⟩
  · rw [hX] at hj ⊢
    have hj' : j < 1 := hj
    obtain rfl : j = 0 := by omega
    simp [World.cell?, hb]
  · intro ao n c e
    simp only [Value.slice.injEq] at e
    obtain ⟨_, rfl, rfl⟩ := e
    exact ⟨by decide, by unfold maxLen; decide⟩

set_option maxRecDepth 100000 in
set_option maxHeartbeats 4000000 in
theorem wakes8 (w : World) : Calls Try.prog 15 #[] w fun e w' => e = .returned (.bool true) ∧ Fr (fun _ => False) w w' := by
  obtain ⟨cx, HCX⟩ : ∃ cx, Hid (cx = cxR 3 (refP 3 1 (pixOf 3 [6917529027641081856]) 0 0)) := ⟨_, rfl⟩
  have HAh : Ahead 3 cx := by rw [HCX.out]; exact cxR_ahead _ _
  have HEn : Hid (∀ (w' : World) (b r : Nat), w'.heap[b]? = some (.cells #[.int .u64 4611686018427387904] 80 (0, 0)) → w'.heap[r]? = some (.cells #[.int .u64 6917529027641081856] 80 (0, 0)) → Calls Try.prog 11 #[.agg #[.int .i64 3, .int .i64 1, .slice (some ⟨b, 0, none⟩) 1 1], .agg #[.int .i64 3, .int .i64 1, .slice (some ⟨r, 0, none⟩) 1 1], .int .i64 0, .int .i64 0] w' fun e w'' => ∃ g n cap, e = .returned (.tuple #[.slice (some ⟨g, 1, none⟩) n cap, .int .i64 0]) ∧ SeenAt w'' (.slice (some ⟨g, 1, none⟩) n cap) (codedB 8192 (rowsD cx 0 3 (pixOf 3 [4611686018427387904]) 1)) ∧ Fr (fun _ => False) w' w'' ∧ w'.heap.size ≤ g) := fun w' b r hb hr => by
    rw [HCX.out]
    exact rfencode_ok 3 1 _ _ 3 1 _ _ 0 0 w' (bm_one w' b 4611686018427387904 wake_b hb) (bm_one w' r 6917529027641081856 wake_r hr) (by omega) (by omega)
  have HDe : Hid (∀ (w' : World) (g n cap r : Nat), SeenAt w' (.slice (some ⟨g, 1, none⟩) n cap) (codedB 8192 (rowsD cx 0 3 (pixOf 3 [4611686018427387904]) 1)) → w'.heap[r]? = some (.cells #[.int .u64 6917529027641081856] 80 (0, 0)) → Calls Try.prog 18 #[.slice (some ⟨g, 1, none⟩) n cap, .int .i64 3, .int .i64 1, .agg #[.int .i64 3, .int .i64 1, .slice (some ⟨r, 0, none⟩) 1 1], .int .i64 0, .int .i64 0] w' fun e w'' => ∃ g2 cap2, e = .returned (.tuple #[.agg #[.int .i64 3, .int .i64 1, .slice (some ⟨g2, 0, none⟩) 1 cap2], .int .i64 0]) ∧ Seen w'' (.slice (some ⟨g2, 0, none⟩) 1 cap2) [4611686018427387904] ∧ Fr (fun _ => False) w' w'') := fun w' g n cap r hs hr => by
    have hl := rowsD_length cx 0 3 (pixOf 3 [4611686018427387904]) 1
    refine (rfdecode_ok _ _ 3 1 3 1 _ _ 0 0 w' hs (Or.inr ⟨_, _, _, rfl⟩) (codedB_lt (by decide) (by decide) _ (by omega)) (by decide) (by decide) (by decide) (bm_one w' r 6917529027641081856 wake_r hr) (by omega) (by omega)).mono ?_
    rintro e w2 ⟨g2, cap2, rfl, hr, _, hf⟩
    refine ⟨g2, cap2, rfl, ?_, hf⟩
    have := hr.seen (by decide)
    rw [← HCX.out, gback cx 3 1 1 (pixOf 3 [4611686018427387904]) HAh (by decide) (by decide), render_congr (fun x y hx hy => cur_all 3 (pixOf 3 [4611686018427387904]) 1 x y hx hy), wake_b] at this
    exact this
  have HSe : Hid (∀ (w' : World) (b : Nat), w'.heap[b]? = some (.cells #[.int .u64 4611686018427387904] 80 (0, 0)) → Seen w' (.slice (some ⟨b, 0, none⟩) 1 1) [4611686018427387904]) := fun w' b hb => by
    have := (bm_one w' b 4611686018427387904 wake_b hb).seen
    rwa [wake_b] at this
  have HLn : Hid (∀ (w' : World) (g n cap : Nat), SeenAt w' (.slice (some ⟨g, 1, none⟩) n cap) (codedB 8192 (rowsD cx 0 3 (pixOf 3 [4611686018427387904]) 1)) → 0 < n) := fun w' g n cap hs => by
    obtain ⟨ao, c, e, _, _⟩ := hs
    simp only [Value.slice.injEq] at e
    have := codedB_pos 8192 (rowsD cx 0 3 (pixOf 3 [4611686018427387904]) 1)
    omega
  generalize codedB 8192 (rowsD cx 0 3 (pixOf 3 [4611686018427387904]) 1) = B at *
  obtain ⟨L, HL⟩ : ∃ L : List Nat, Hid (L = [4611686018427387904]) := ⟨[4611686018427387904], rfl⟩
  rw [← HL.out] at HDe HSe
  clear HAh
  have HF0 : Hid (Fr (fun _ => False) w ((((w.alloc (.cells #[.int .u64 4611686018427387904] 80)).alloc (.cells #[.int .i64 3, .int .i64 1, .slice (some ⟨w.heap.size, 0, none⟩) 1 1] 26)).alloc (.cells #[.int .u64 6917529027641081856] 80)).alloc (.cells #[.int .i64 3, .int .i64 1, .slice (some ⟨w.heap.size + 1 + 1, 0, none⟩) 1 1] 26))) := ((((Fr.refl _ _).alloc _).alloc _).alloc _).alloc _
  have HB0 : Hid (∀ w', Fr (fun _ => False) ((((w.alloc (.cells #[.int .u64 4611686018427387904] 80)).alloc (.cells #[.int .i64 3, .int .i64 1, .slice (some ⟨w.heap.size, 0, none⟩) 1 1] 26)).alloc (.cells #[.int .u64 6917529027641081856] 80)).alloc (.cells #[.int .i64 3, .int .i64 1, .slice (some ⟨w.heap.size + 1 + 1, 0, none⟩) 1 1] 26)) w' → w'.heap[w.heap.size]? = some (.cells #[.int .u64 4611686018427387904] 80 (0, 0)) ∧ w'.heap[w.heap.size + 1]? = some (.cells #[.int .i64 3, .int .i64 1, .slice (some ⟨w.heap.size, 0, none⟩) 1 1] 26 (0, 0)) ∧ w'.heap[w.heap.size + 1 + 1]? = some (.cells #[.int .u64 6917529027641081856] 80 (0, 0)) ∧ w'.heap[w.heap.size + 1 + 1 + 1]? = some (.cells #[.int .i64 3, .int .i64 1, .slice (some ⟨w.heap.size + 1 + 1, 0, none⟩) 1 1] 26 (0, 0))) := fun w' f => by
    have q4 := heap_alloc_new (((w.alloc (.cells #[.int .u64 4611686018427387904] 80)).alloc (.cells #[.int .i64 3, .int .i64 1, .slice (some ⟨w.heap.size, 0, none⟩) 1 1] 26)).alloc (.cells #[.int .u64 6917529027641081856] 80)) (.cells #[.int .i64 3, .int .i64 1, .slice (some ⟨w.heap.size + 1 + 1, 0, none⟩) 1 1] 26)
    have q3 := heap_alloc_new ((w.alloc (.cells #[.int .u64 4611686018427387904] 80)).alloc (.cells #[.int .i64 3, .int .i64 1, .slice (some ⟨w.heap.size, 0, none⟩) 1 1] 26)) (.cells #[.int .u64 6917529027641081856] 80)
    have q2 := heap_alloc_new (w.alloc (.cells #[.int .u64 4611686018427387904] 80)) (.cells #[.int .i64 3, .int .i64 1, .slice (some ⟨w.heap.size, 0, none⟩) 1 1] 26)
    have q1 := heap_alloc_new w (.cells #[.int .u64 4611686018427387904] 80)
    simp only [World.size_alloc] at q1 q2 q3 q4
    exact ⟨blkOld f (blkUp (blkUp (blkUp q1 _) _) _), blkOld f (blkUp (blkUp q2 _) _), blkOld f (blkUp q3 _), blkOld f q4⟩
  go_enter Try.func15, Try.ntmps15
  go_wp2_with fail
  generalize ((((w.alloc (.cells #[.int .u64 4611686018427387904] 80)).alloc (.cells #[.int .i64 3, .int .i64 1, .slice (some ⟨w.heap.size, 0, none⟩) 1 1] 26)).alloc (.cells #[.int .u64 6917529027641081856] 80)).alloc (.cells #[.int .i64 3, .int .i64 1, .slice (some ⟨w.heap.size + 1 + 1, 0, none⟩) 1 1] 26)) = w0 at *
  refine (HEn.out _ w.heap.size (w.heap.size + 1 + 1) (HB0.out _ (Fr.refl _ _)).1 (HB0.out _ (Fr.refl _ _)).2.2.1).mono ?_
  rintro e w1 ⟨g, n, cap, rfl, hs1, hf1, hg1⟩
  have hn := HLn.out _ _ _ _ hs1
  have hd1 : decide ((0 : Int) < (n : Int)) = true := decide_eq_true (by omega)
  have HS1 : Hid (SeenAt w1 (.slice (some ⟨g, 1, none⟩) n cap) B) := hs1
  have HF1 : Hid (Fr (fun _ => False) w0 w1) := hf1
  obtain ⟨b0, b1, b2, b3⟩ := HB0.out _ hf1
  obtain ⟨q0, q1, q2, qf⟩ := cell_of_three b3
  clear hs1 hf1 b0 b1 b2 b3
  go_wp2_with fail
  refine (HDe.out _ g n cap (w.heap.size + 1 + 1) HS1.out (HB0.out _ HF1.out).2.2.1).mono ?_
  rintro e w2 ⟨g2, cap2, rfl, hs2, hf2⟩
  have HF2 : Hid (Fr (fun _ => False) w0 (w2.alloc (.cells #[.int .i64 3, .int .i64 1, .slice (some ⟨g2, 0, none⟩) 1 cap2] 26))) := (HF1.out.trans hf2 (fun _ _ h => h)).alloc _
  clear q0 q1 q2 qf
  obtain ⟨b0, b1, b2, b3⟩ := HB0.out _ HF2.out
  obtain ⟨q0, q1, q2, qf⟩ := cell_of_three b1
  obtain ⟨y0, y1, y2, yf⟩ := cell_of_three (heap_alloc_new w2 (.cells #[.int .i64 3, .int .i64 1, .slice (some ⟨g2, 0, none⟩) 1 cap2] 26))
  have HQ : Hid (∀ w', Fr (fun _ => False) (w2.alloc (.cells #[.int .i64 3, .int .i64 1, .slice (some ⟨g2, 0, none⟩) 1 cap2] 26)) w' → Calls Try.prog 21 #[.agg #[.int .i64 3, .int .i64 1, .slice (some ⟨w.heap.size, 0, none⟩) 1 1], .agg #[.int .i64 3, .int .i64 1, .slice (some ⟨g2, 0, none⟩) 1 cap2]] w' fun e w'' => e = .returned (.bool true) ∧ Fr (fun _ => False) w' w'') := fun w' f => by
    have := eqBitmap_any 3 1 3 1 _ _ L L w' ((HSe.out _ _ b0).kept f) ((hs2.kept ((Fr.refl (fun _ => False) w2).alloc _)).kept f)
    simpa [eqB] using this
  clear hs2 hf2 b0 b1 b2 b3 qf yf
  go_wp2_with fail
  refine (HQ.out _ (Fr.refl _ _)).mono ?_
  rintro e w3 ⟨rfl, hf3⟩
  have HF3 : Hid (Fr (fun _ => False) w w3) := HF0.out.trans (HF2.out.trans hf3 (fun _ _ h => h)) (fun _ _ h => h)
  clear hf3
  go_wp2_with fail
  go_ret
  exact ⟨rfl, HF3.out⟩

end Go.Proofs.Ytmfpoabhmpljgaa

/- 'light'. -/
namespace Go.Proofs.Ytmfpoabhmpljgaa
open Go.RowKit

theorem valid_bm {x y : Int} {v : Value} {l : List Nat} {w : World} (h : validB x y l = true) (hv : Seen w v l) (hc : CapOK v) (hlt : ∀ j : Nat, l[j]?.getD 0 < 18446744073709551616) : ∃ (W H : Nat) (P : Nat → Nat → Bool), x = W ∧ y = H ∧ l = render W H P ∧ Bm w v W H P := by
  have h' := h
  unfold validB at h
  simp only [Bool.and_eq_true, decide_eq_true_eq] at h
  obtain ⟨⟨hs, hl⟩, hr⟩ := h
  unfold sizeOK at hs
  obtain ⟨s1, s2, s3⟩ := of_decide_eq_true hs
  obtain ⟨W, rfl⟩ : ∃ W : Nat, x = W := ⟨x.toNat, by omega⟩
  obtain ⟨H, rfl⟩ : ∃ H : Nat, y = H := ⟨y.toNat, by omega⟩
  have e := valid_render W H l (by omega) hl hr hlt
  refine ⟨W, H, pixOf W l, rfl, rfl, e, ?_, hc, by omega, by omega, ?_⟩
  · rw [← e]; exact hv
  · rw [← Int.natCast_mul] at s3; omega

def lightB (x y : Int) (l : List Nat) : Bool := decide (l.length ≤ 1000) && (!validB x y l || decide (x * y ≤ 4000))

set_option maxRecDepth 100000 in
set_option maxHeartbeats 1000000 in
theorem light_any (x y : Int) (v : Value) (l : List Nat) (w : World) (hx : -9223372036854775808 ≤ x ∧ x ≤ 9223372036854775807) (hy : -9223372036854775808 ≤ y ∧ y ≤ 9223372036854775807) (hv : Seen w v l) (hcap : CapOK v) (hlt : ∀ j : Nat, l[j]?.getD 0 < 18446744073709551616) :
    Calls Try.prog 9 #[.agg #[.int .i64 x, .int .i64 y, v]] w fun e w' => e = .returned (.bool (lightB x y l)) ∧ Fr (fun _ => False) w w' := by
  have HMY : Hid (∀ w', Fr (fun _ => False) w w' → Calls Try.prog 22 #[.agg #[.int .i64 x, .int .i64 y, v]] w' fun e w'' => e = .returned (.bool (validB x y l)) ∧ Fr (fun _ => False) w' w'') := fun w' hf => may_any x y v l w' hx hy (hv.kept hf) hlt
  have HV : Hid (validB x y l = true → IntKind.i64.wrap (x * y) = x * y) := fun h => by
    obtain ⟨W, H, P, rfl, rfl, _, hb⟩ := valid_bm h hv hcap hlt
    have h3 := hb.h3
    rw [IntKind.wrap_i64, ← Int.natCast_mul]
    omega
  have HBX : Hid (∀ w', Fr (fun _ => False) (w.alloc (.cells #[.int .i64 x, .int .i64 y, v] 26)) w' → w'.cell? ⟨w.heap.size, 0, none⟩ = some (.int .i64 x) ∧ w'.cell? ⟨w.heap.size, 1, none⟩ = some (.int .i64 y) ∧ w'.cell? ⟨w.heap.size, 2, none⟩ = some v) := fun w' hf => by
    obtain ⟨c0, c1, c2, _⟩ := cell_of_three ((hf.block w.heap.size (by simp) (fun hh => hh)).trans (heap_alloc_new w _))
    exact ⟨c0, c1, c2⟩
  obtain ⟨ao, cap, rfl, hl, _⟩ := hv
  unfold lightB
  clear hx hy hcap hlt
  generalize l.length = n at *
  generalize validB x y l = b at *
  by_cases h1 : n ≤ 1000
  · have hd : decide ((n : Int) ≤ 1000) = true := decide_eq_true (by omega)
    have hd0 : decide (n ≤ 1000) = true := decide_eq_true h1
    rw [hd0]
    clear h1 hd0 hl
    cases b
    · go_enter Try.func9, Try.ntmps9
      go_wp2_with fail
      refine (HMY.out _ ((Fr.refl _ _).alloc _)).mono ?_
      rintro e w1 ⟨rfl, hf1⟩
      have HF : Hid (Fr (fun _ => False) w w1) := ((Fr.refl _ _).alloc _).trans hf1 (fun _ _ h => h)
      clear hf1
      go_wp2_with fail
      go_ret
      exact ⟨rfl, HF.out⟩
    · have hw := HV.out rfl
      clear HV
      generalize hxy : x * y = xy at *
      obtain ⟨d, HD⟩ : ∃ d, Hid (d = decide (xy ≤ 4000)) := ⟨_, rfl⟩
      rw [← HD.out]
      go_enter Try.func9, Try.ntmps9
      go_wp2_with fail
      refine (HMY.out _ ((Fr.refl _ _).alloc _)).mono ?_
      rintro e w1 ⟨rfl, hf1⟩
      have HF : Hid (Fr (fun _ => False) w w1) := ((Fr.refl _ _).alloc _).trans hf1 (fun _ _ h => h)
      obtain ⟨c0, c1, c2⟩ := HBX.out _ hf1
      have hdd : decide (xy ≤ 4000) = d := HD.out.symm
      clear hf1
      go_wp2_with fail
      go_ret
      exact ⟨by cases d <;> rfl, HF.out⟩
  · have hd : decide ((n : Int) ≤ 1000) = false := decide_eq_false (by omega)
    have hd0 : decide (n ≤ 1000) = false := decide_eq_false h1
    rw [hd0, Bool.false_and]
    clear h1 hd0 hl
    go_enter Try.func9, Try.ntmps9
    go_wp2_with fail
    go_ret
    exact ⟨rfl, (Fr.refl _ _).alloc _⟩

end Go.Proofs.Ytmfpoabhmpljgaa
