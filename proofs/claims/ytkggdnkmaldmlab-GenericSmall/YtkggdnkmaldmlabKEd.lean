/- Package generic: Encode and Decode, of what may be. -/
import Derived.Test.YtkggdnkmaldmlabKPu
import Derived.Test.YtkggdnkmaldmlabKGt
namespace Go.Proofs.Ytkggdnkmaldmlab
open Go.RowKit

set_option maxRecDepth 100000 in
set_option maxHeartbeats 4000000 in
theorem gencode_ok (W H : Nat) (v : Value) (P : Pxs) (t : Nat) (skip : Bool) (w : World) (hb : Bm w v W H P) (ht : t < 4) (hm : H * (W + 1) ≤ 16777216) :
    Calls Try.prog 15 #[.agg #[.int .i64 W, .int .i64 H, v], .int .i64 t, .bool skip] w fun e w' => ∃ g n cap, e = .returned (.tuple #[.slice (some ⟨g, 1, none⟩) n cap, .int .i64 0]) ∧ SeenAt w' (.slice (some ⟨g, 1, none⟩) n cap) (codedB (sizeT t + 1) (rowsD 0 t W skip P H)) ∧ Fr (fun _ => False) w w' ∧ w.heap.size ≤ g := by
  have hZ := sizeT_le t ht
  have HB : Hid (∀ w', Fr (fun _ => False) w w' → Bm w' v W H P) := fun w' f => hb.kept f
  have HNP : Hid (∀ w', Calls Try.prog 22 #[.int .i64 0, .int .i64 t, .bool skip] w' fun e w'' => e = .returned (.tuple #[procI 0 t skip, .int .i64 0]) ∧ Fr (fun _ => False) w' w'') := fun w' => newProc_ok 0 t skip ht w'
  have HCn : Hid (∀ w', Calls Try.prog 36 #[procI 0 t skip] w' fun e w'' => e = .returned (.int .i64 ((sizeT t + 1 : Nat) : Int)) ∧ Fr (fun _ => False) w' w'') := fun w' => count7_any 0 t skip ht w'
  have HNw : Hid (∀ w', Calls Try.prog 6 #[.int .i64 ((sizeT t + 1 : Nat) : Int)] w' fun e w'' => ∃ bc gc gb, e = .returned (.tuple #[.pointer (some ⟨bc, 0, none⟩), .int .i64 0]) ∧ CoAt w'' bc gc (sizeT t + 1) gb 1 (newP (sizeT t + 1)) ∧ Fr (fun _ => False) w' w'' ∧ w'.heap.size ≤ bc ∧ w'.heap.size ≤ gc ∧ w'.heap.size ≤ gb) := fun w' => new_any w' (sizeT t + 1) (by omega) (by omega)
  have HPt : Hid (∀ (w' : World) (bc gc gb : Nat), Fr (fun _ => False) w w' → CoAt w' bc gc (sizeT t + 1) gb 1 (newP (sizeT t + 1)) → Calls Try.prog 8 #[.pointer (some ⟨bc, 0, none⟩), .int .i64 0, .agg #[.int .i64 W, .int .i64 H, v], .int .i64 t, .bool skip] w' fun e w'' => e = .returned (.int .i64 0) ∧ ∃ gb' cb', CoAt w'' bc gc (sizeT t + 1) gb' cb' (runL (newP (sizeT t + 1)) (rowsD 0 t W skip P H)) ∧ Ook (runL (newP (sizeT t + 1)) (rowsD 0 t W skip P H)) ∧ CStep bc gc gb gb' w' w'') := fun w' bc gc gb f hc =>
    gput_ok bc gc (sizeT t + 1) gb 1 (newP (sizeT t + 1)) 0 t W H v P skip w' hc (newP_ok (by omega) (by omega)) (hb.kept f) ht (by simp [newP]) (by show 0 + _ ≤ _; omega)
  obtain ⟨ao, cv, hv, _, _⟩ := hb.seen
  rw [length_render] at hv
  obtain ⟨n0, HN0⟩ : ∃ n0, Hid (n0 = H * stride W) := ⟨_, rfl⟩
  rw [← HN0.out] at hv
  subst hv
  unfold codedB
  unfold procI at *
  clear hb hm ht
  generalize hRR : runL (newP (sizeT t + 1)) (rowsD 0 t W skip P H) = R at *
  clear hRR
  obtain ⟨N0, HNN⟩ : ∃ N0, Hid (N0 = newP (sizeT t + 1)) := ⟨_, rfl⟩
  rw [← HNN.out] at HNw HPt
  generalize ((sizeT t + 1 : Nat) : Int) = C1 at *
  generalize sizeT t + 1 = C at *
  generalize sizeT t = Z at *
  generalize 2 ^ cntS t 2 - 1 = O at *
  go_enter Try.func15, Try.ntmps15
  go_wp2_with fail
  refine (HNP.out _).mono ?_
  rintro e w1 ⟨rfl, hf1⟩
  have hs1 : w.heap.size < w1.heap.size := by have := hf1.size; simp at this; omega
  have HF1 : Hid (Fr (fun _ => False) w (w1.alloc (.cells #[.int .i64 0, .int .i64 t, .int .i64 Z, .int .i64 O, .bool skip] 62))) := (((Fr.refl _ _).alloc _).trans hf1 (fun _ _ h => h)).alloc _
  have HBX : Hid (∀ w', Fr (fun _ => False) (w1.alloc (.cells #[.int .i64 0, .int .i64 t, .int .i64 Z, .int .i64 O, .bool skip] 62)) w' → w'.heap[w.heap.size]? = some (.cells #[.int .i64 W, .int .i64 H, .slice ao n0 cv] 24 (0, 0)) ∧ w'.heap[w1.heap.size]? = some (.cells #[.int .i64 0, .int .i64 t, .int .i64 Z, .int .i64 O, .bool skip] 62 (0, 0))) := fun w' f => by
    refine ⟨?_, ?_⟩
    · rw [f.block _ (by simp; omega) (fun h => h), Below.heap_alloc _ _ _ hs1, hf1.block _ (by simp) (fun h => h)]; exact heap_alloc_new w _
    · rw [f.block _ (by simp) (fun h => h)]; exact heap_alloc_new w1 _
  clear hf1
  obtain ⟨p0, p1, p2, p3, p4, pf⟩ := cell_of_five (HBX.out _ (Fr.refl _ _)).2
  go_wp2_with fail
  generalize hwA : w1.alloc (.cells #[.int .i64 0, .int .i64 t, .int .i64 Z, .int .i64 O, .bool skip] 62) = wA at *
  refine (HCn.out _).mono ?_
  rintro e w2 ⟨rfl, hf2⟩
  have HF2 : Hid (Fr (fun _ => False) wA w2) := hf2
  clear hf2 p0 p1 p2 p3 p4 pf hwA
  go_wp2_with fail
  refine (HNw.out _).mono ?_
  rintro e w3 ⟨bc, gc, gb, rfl, hc3, hf3, hb3, hg3, hl3⟩
  have HF3 : Hid (Fr (fun _ => False) wA w3) := HF2.out.trans hf3 (fun _ _ h => h)
  have HC3 : Hid (CoAt w3 bc gc C gb 1 N0 ∧ w.heap.size ≤ bc ∧ w.heap.size ≤ gc ∧ w.heap.size ≤ gb) := by
    have := (HF1.out.trans HF2.out (fun _ _ h => h)).size
    exact ⟨hc3, by omega, by omega, by omega⟩
  clear hc3 hf3 hb3 hg3 hl3
  obtain ⟨q0, q1, q2, qf⟩ := cell_of_three (HBX.out _ HF3.out).1
  go_wp2_with fail
  refine (HPt.out _ bc gc gb (HF1.out.trans HF3.out (fun _ _ h => h)) HC3.out.1).mono ?_
  rintro e w4 ⟨rfl, gb', cb', hc4, ho4, hs4⟩
  have H4 : Hid (CoAt w4 bc gc C gb' cb' R ∧ Ook R ∧ Fr (fun _ => False) w w4 ∧ w.heap.size ≤ gb') := by
    obtain ⟨a, b⟩ := CStep.fresh (HF1.out.trans HF3.out (fun _ _ h => h)) hs4 HC3.out.2
    exact ⟨hc4, ho4, a, b⟩
  clear hc4 ho4 hs4 q0 q1 q2 qf
  go_wp2_with fail
  refine (flush_any _ bc gc C gb' cb' R H4.out.1 H4.out.2.1).mono ?_
  rintro e w5 ⟨gb2, n, cap, rfl, hsn, _, hs5, _, _⟩
  have H5 : Hid (SeenAt w5 (.slice (some ⟨gb2, 1, none⟩) n cap) (flushP R.s) ∧ Fr (fun _ => False) w w5 ∧ w.heap.size ≤ gb2) := by
    obtain ⟨a, b⟩ := CStep.fresh H4.out.2.2.1 hs5 ⟨HC3.out.2.1, HC3.out.2.2.1, H4.out.2.2.2⟩
    exact ⟨hsn, a, b⟩
  clear hsn hs5
  go_wp2_with fail
  go_ret2
  exact ⟨gb2, n, cap, rfl, H5.out.1, H5.out.2.1, H5.out.2.2⟩

set_option maxRecDepth 100000 in
set_option maxHeartbeats 4000000 in
theorem gdecode_ok (v : Value) (B : List Nat) (W H t : Nat) (skip : Bool) (w : World) (hv : SeenAt w v B) (hnil : v = .slice none 0 0 ∨ ∃ a n c, v = .slice (some a) n c) (hB : ∀ y ∈ B, y < 256) (h1 : 1 ≤ W) (h2 : 1 ≤ H) (h3 : W * H ≤ 1048576) (ht : t < 4) (hm : H * (W + 1) ≤ 16777216) :
    Calls Try.prog 34 #[v, .int .i64 W, .int .i64 H, .int .i64 t, .bool skip] w fun e w' => ∃ g cap, e = .returned (.tuple #[.agg #[.int .i64 W, .int .i64 H, .slice (some ⟨g, 0, none⟩) (H * stride W) cap], .int .i64 0]) ∧ RowAt w' g cap W H (gotW B 0 t W skip H (newD B (sizeT t + 1))).2 ∧ w.heap.size ≤ g ∧ Fr (fun _ => False) w w' := by
  have hZ := sizeT_le t ht
  have HNP : Hid (∀ w', Calls Try.prog 22 #[.int .i64 0, .int .i64 t, .bool skip] w' fun e w'' => e = .returned (.tuple #[procI 0 t skip, .int .i64 0]) ∧ Fr (fun _ => False) w' w'') := fun w' => newProc_ok 0 t skip ht w'
  have HCn : Hid (∀ w', Calls Try.prog 36 #[procI 0 t skip] w' fun e w'' => e = .returned (.int .i64 ((sizeT t + 1 : Nat) : Int)) ∧ Fr (fun _ => False) w' w'') := fun w' => count7_any 0 t skip ht w'
  have HNw : Hid (∀ w', Fr (fun _ => False) w w' → Calls Try.prog 7 #[v, .int .i64 ((sizeT t + 1 : Nat) : Int)] w' fun e w'' => ∃ bd gc vb, e = .returned (.tuple #[.pointer (some ⟨bd, 0, none⟩), .int .i64 0]) ∧ DeAt w'' bd gc (sizeT t + 1) vb B (newD B (sizeT t + 1)) ∧ Fr (fun _ => False) w' w'' ∧ w'.heap.size ≤ bd ∧ w'.heap.size ≤ gc ∧ ∀ k, vb.ownBlock = some k → w'.heap.size ≤ k) := fun w' f => newDecoder_any w' v B (sizeT t + 1) (by omega) (by omega) (hv.kept f (fun _ _ h => h)) hnil hB
  have HGt : Hid (∀ (w' : World) (bd gc : Nat) (vb : Value), DeAt w' bd gc (sizeT t + 1) vb B (newD B (sizeT t + 1)) → Calls Try.prog 9 #[.pointer (some ⟨bd, 0, none⟩), .int .i64 0, .int .i64 W, .int .i64 H, .int .i64 t, .bool skip] w' fun e w'' => ∃ g cap, e = .returned (.tuple #[.agg #[.int .i64 W, .int .i64 H, .slice (some ⟨g, 0, none⟩) (H * stride W) cap], .int .i64 0]) ∧ RowAt w'' g cap W H (gotW B 0 t W skip H (newD B (sizeT t + 1))).2 ∧ w'.heap.size ≤ g ∧ DeAt w'' bd gc (sizeT t + 1) vb B (gotW B 0 t W skip H (newD B (sizeT t + 1))).1 ∧ Eok B (gotW B 0 t W skip H (newD B (sizeT t + 1))).1 ∧ Fr (fun k => k = bd ∨ k = gc ∨ vb.ownBlock = some k) w' w'') := fun w' bd gc vb hd =>
    gget_ok bd gc (sizeT t + 1) vb B (newD B (sizeT t + 1)) 0 t W H skip w' hd (newD_ok (by omega) (by omega) hB) h1 h2 h3 ht (by simp [newD]) (by show 0 + _ ≤ _; omega)
  obtain ⟨n0, HN0⟩ : ∃ n0, Hid (n0 = H * stride W) := ⟨_, rfl⟩
  rw [← HN0.out] at HGt ⊢
  obtain ⟨R, HRR⟩ : ∃ R, Hid (R = gotW B 0 t W skip H (newD B (sizeT t + 1))) := ⟨_, rfl⟩
  rw [← HRR.out] at HGt ⊢
  unfold procI at *
  clear h1 h2 h3 hm ht hB hv
  obtain ⟨N0, HNN⟩ : ∃ N0, Hid (N0 = newD B (sizeT t + 1)) := ⟨_, rfl⟩
  rw [← HNN.out] at HNw HGt
  generalize ((sizeT t + 1 : Nat) : Int) = C1 at *
  generalize sizeT t + 1 = C at *
  generalize sizeT t = Z at *
  generalize 2 ^ cntS t 2 - 1 = O at *
  go_enter Try.func34, Try.ntmps34
  go_wp2_with fail
  refine (HNP.out _).mono ?_
  rintro e w1 ⟨rfl, hf1⟩
  have hs1 : w.heap.size < w1.heap.size := by have := hf1.size; simp at this; omega
  have HF1 : Hid (Fr (fun _ => False) w (w1.alloc (.cells #[.int .i64 0, .int .i64 t, .int .i64 Z, .int .i64 O, .bool skip] 62))) := (((Fr.refl _ _).alloc _).trans hf1 (fun _ _ h => h)).alloc _
  have HBX : Hid (∀ w', Fr (fun _ => False) (w1.alloc (.cells #[.int .i64 0, .int .i64 t, .int .i64 Z, .int .i64 O, .bool skip] 62)) w' → w'.heap[w.heap.size]? = some (.cells #[.int .i64 0, .int .i64 0, .slice none 0 0] 24 (0, 0)) ∧ w'.heap[w1.heap.size]? = some (.cells #[.int .i64 0, .int .i64 t, .int .i64 Z, .int .i64 O, .bool skip] 62 (0, 0))) := fun w' f => by
    refine ⟨?_, ?_⟩
    · rw [f.block _ (by simp; omega) (fun h => h), Below.heap_alloc _ _ _ hs1, hf1.block _ (by simp) (fun h => h)]; exact heap_alloc_new w _
    · rw [f.block _ (by simp) (fun h => h)]; exact heap_alloc_new w1 _
  clear hf1
  obtain ⟨p0, p1, p2, p3, p4, pf⟩ := cell_of_five (HBX.out _ (Fr.refl _ _)).2
  go_wp2_with fail
  generalize hwA : w1.alloc (.cells #[.int .i64 0, .int .i64 t, .int .i64 Z, .int .i64 O, .bool skip] 62) = wA at *
  refine (HCn.out _).mono ?_
  rintro e w2 ⟨rfl, hf2⟩
  have HF2 : Hid (Fr (fun _ => False) wA w2) := hf2
  clear hf2 p0 p1 p2 p3 p4 pf hwA
  go_wp2_with fail
  refine (HNw.out _ (HF1.out.trans HF2.out (fun _ _ h => h))).mono ?_
  rintro e w3 ⟨bd, gc, vb, rfl, hd3, hf3, hb3, hg3, hl3⟩
  have HF3 : Hid (Fr (fun _ => False) wA w3) := HF2.out.trans hf3 (fun _ _ h => h)
  have hw2 : w.heap.size < w2.heap.size := by have := (HF1.out.trans HF2.out (fun _ _ h => h)).size; have := lt_of_block (HBX.out _ HF2.out).1; omega
  have HD3 : Hid (DeAt w3 bd gc C vb B N0 ∧ w.heap.size < bd ∧ w.heap.size < gc ∧ (∀ k, vb.ownBlock = some k → w.heap.size < k)) := ⟨hd3, by omega, by omega, fun k hk => by have := hl3 k hk; omega⟩
  clear hd3 hf3 hb3 hg3 hl3
  go_wp2_with fail
  refine (HGt.out _ bd gc vb HD3.out.1).mono ?_
  rintro e w4 ⟨g, cap, rfl, hr4, hg4, _, _, hf4⟩
  have hg5 : w.heap.size < g := by have := HF3.out.size; have := HF1.out.size; have := lt_of_block (HBX.out _ HF3.out).1; omega
  have hb4 : w4.heap[w.heap.size]? = some (.cells #[.int .i64 0, .int .i64 0, .slice none 0 0] 24 (0, 0)) := by
    rw [hf4.block _ (lt_of_block (HBX.out _ HF3.out).1) (fun e => by
      have h9 := HD3.out
      rcases e with e | e | e
      · omega
      · omega
      · have := h9.2.2.2 _ e; omega)]
    exact (HBX.out _ HF3.out).1
  have hset := set3_cells hb4 (.int .i64 W) (.int .i64 H) (.slice (some ⟨g, 0, none⟩) n0 cap)
  have hf9 : Fr (fun k => k = w.heap.size) w4 (((w4.setCell ⟨w.heap.size, 0, none⟩ (.int .i64 W)).setCell ⟨w.heap.size, 1, none⟩ (.int .i64 H)).setCell ⟨w.heap.size, 2, none⟩ (.slice (some ⟨g, 0, none⟩) n0 cap)) := (((Fr.refl (fun k => k = w.heap.size) w4).setCell (p := ⟨w.heap.size, 0, none⟩) (fun _ => rfl) _).setCell (p := ⟨w.heap.size, 1, none⟩) (fun _ => rfl) _).setCell (p := ⟨w.heap.size, 2, none⟩) (fun _ => rfl) _
  obtain ⟨w9, hw9⟩ : ∃ w9, w9 = ((w4.setCell ⟨w.heap.size, 0, none⟩ (.int .i64 W)).setCell ⟨w.heap.size, 1, none⟩ (.int .i64 H)).setCell ⟨w.heap.size, 2, none⟩ (.slice (some ⟨g, 0, none⟩) n0 cap) := ⟨_, rfl⟩
  rw [← hw9] at hset hf9
  obtain ⟨x0, x1, x2, xf⟩ := cell_of_three hset
  have HW9 := (show Hid (w9 = ((w4.setCell ⟨w.heap.size, 0, none⟩ (.int .i64 W)).setCell ⟨w.heap.size, 1, none⟩ (.int .i64 H)).setCell ⟨w.heap.size, 2, none⟩ (.slice (some ⟨g, 0, none⟩) n0 cap)) from hw9)
  have HE : Hid (RowAt w9 g cap W H R.2 ∧ w.heap.size ≤ g ∧ Fr (fun _ => False) w w9) := by
    refine ⟨hr4.kept hf9 (by omega), by omega, ?_⟩
    refine ((HF1.out.trans HF3.out (fun _ _ h => h)).trans hf4 (fun i hi e => ?_)).trans hf9 (fun i hi e => by omega)
    have h9 := HD3.out
    rcases e with e | e | e
    · omega
    · omega
    · have := h9.2.2.2 _ e; omega
  obtain ⟨u0, u1, u2, uf⟩ := cell_of_three hb4
  clear hr4 hg4 hf4 hset hf9 xf hb4 hw9 hg5
  go_wp2_with fail
  rw [← HW9.out]
  refine bodyPost_ret (v := .tuple #[.agg #[.int .i64 W, .int .i64 H, .slice (some ⟨g, 0, none⟩) n0 cap], .int .i64 0]) (by simp [results, Try.results34, go_sem, x0, x1, x2]) rfl ?_
  exact ⟨g, cap, rfl, HE.out.1, HE.out.2.1, HE.out.2.2⟩

end Go.Proofs.Ytkggdnkmaldmlab
