/- Package generic: Put of a coder that was flushed; the law 'GenericRefuses'. -/
import Derived.Test.YtkggdnkmaldmlabKRv
namespace Go.Proofs.Ytkggdnkmaldmlab
open Go.RowKit

set_option maxRecDepth 100000 in
set_option maxHeartbeats 4000000 in
theorem gput_done (bc gc cc : Nat) (x : List Nat) (base t W H : Nat) (v : Value) (P : Pxs) (w : World) (hd : DoAt w bc gc cc x) (hlim : x.length ≤ 131072) (hb : Bm w v W H P) (ht : t < 4) (hbase : base + sizeT t + 1 ≤ x.length) :
    Calls Try.prog 8 #[.pointer (some ⟨bc, 0, none⟩), .int .i64 base, .agg #[.int .i64 W, .int .i64 H, v], .int .i64 t, .bool false] w fun e w' => e = .returned (.int .i64 43) ∧ Fr (fun _ => False) w w' := by
  obtain ⟨f1, f2, f3⟩ := size_facts hb.h1 hb.h2 hb.h3
  have HB : Hid (∀ w', Fr (fun _ => False) w w' → Bm w' v W H P) := fun w' f => hb.kept f
  have hH : 0 < H * stride W := Nat.mul_pos (by have := hb.h2; omega) (stride_pos (by have := hb.h1; omega))
  obtain ⟨a0, o0, cv, hv⟩ : ∃ a0 o0 cv, v = .slice (some ⟨a0, o0, none⟩) (H * stride W) cv := by
    obtain ⟨ao, cap, rfl, _, hcc⟩ := hb.seen
    obtain ⟨b, off, rfl, _⟩ := hcc (by intro e; have := congrArg List.length e; rw [length_render] at this; simp at this; omega)
    exact ⟨b, off, cap, by rw [length_render]⟩
  have HCl : Hid (∀ w', Fr (fun _ => False) w w' → Calls Try.prog 26 #[v] w' fun e w'' => ∃ g cap, e = .returned (.slice (some ⟨g, 0, none⟩) (H * stride W) cap) ∧ RowAt w'' g cap W H P ∧ Fr (fun _ => False) w' w'' ∧ w'.heap.size ≤ g) := fun w' f => by
    have hb' := hb.kept f
    subst hv
    refine (cloneW_some _ _ cv (render W H P) w' (length_render W H P) f3 ?_).mono ?_
    · intro j u hu
      have hj : j < H * stride W := by
        rcases Nat.lt_or_ge j (H * stride W) with h2 | h2
        · exact h2
        · rw [List.getElem?_eq_none (by rw [length_wordCells, length_render]; exact h2)] at hu; cases hu
      obtain ⟨ao, cap, e, _, hcc⟩ := hb'.seen
      obtain ⟨b, off, rfl, hcell⟩ := hcc (by intro e; have := congrArg List.length e; rw [length_render] at this; simp at this; omega)
      simp only [Value.slice.injEq, Option.some.injEq, Addr.mk.injEq, and_true] at e
      obtain ⟨⟨rfl, rfl⟩, _, _⟩ := e
      have := hcell j (by rw [length_render]; exact hj)
      rw [show (⟨a0, o0, none⟩ : Addr).add j = ⟨a0, o0 + j, none⟩ from by unfold Addr.add; split <;> simp_all, this, ← hu, wordCells_get, render_get' P hj]; rfl
    · rintro e w2 ⟨rv, rfl, ho, hf2, hnn⟩
      obtain ⟨g2, cap2, hrv, hg2⟩ := row_out ho hnn
      subst hrv
      exact ⟨g2, cap2, rfl, ownsRow_base ho (fun _ _ => Nat.zero_le _), hf2, hg2⟩
  have HTh : Hid (∀ (w' : World) (g cap : Nat), Fr (fun _ => False) w w' → RowAt w' g cap W H P → Calls Try.prog 27 #[.agg #[.pointer (some ⟨bc, 0, none⟩)], procV base t false, .agg #[.int .i64 W, .int .i64 H, .slice (some ⟨g, 0, none⟩) (H * stride W) cap]] w' fun e w'' => e = .returned (.int .i64 43) ∧ Fr (fun _ => False) w' w'') := fun w' g cap f hr =>
    through_done bc base t W H g cap P w' (fun w2 f2 => by
      obtain ⟨_, _, _, _, _, h⟩ := (hd.kept (f.trans f2 (fun _ _ h => h)) (fun h => h) (fun h => h)).blk
      simp [World.cell?, h]) hr ht hb.h1 hb.h2 hb.h3
  have HNP : Hid (∀ w', Calls Try.prog 22 #[.int .i64 base, .int .i64 t, .bool false] w' fun e w'' => e = .returned (.tuple #[procV base t false, .int .i64 0]) ∧ Fr (fun _ => False) w' w'') := fun w' => newProc_ok base t false ht w'
  have HFt : Hid (∀ w', Calls Try.prog 24 #[procV base t false, .int .i64 (x.length : Nat)] w' fun e w'' => e = .returned (.bool true) ∧ Fr (fun _ => False) w' w'') := fun w' => by
    have := fits_pos base t false x.length ht (by omega) hlim w'
    rwa [decide_eq_true hbase] at this
  have HCt : Hid (∀ w', Fr (fun _ => False) w w' → Calls Try.prog 25 #[.pointer (some ⟨bc, 0, none⟩)] w' fun e w'' => e = .returned (.int .i64 (x.length : Nat)) ∧ w'' = w') := fun w' f => by
    obtain ⟨_, _, _, _, _, h⟩ := (hd.kept f (fun x => x) (fun x => x)).blk
    exact contexts_at w' bc gc cc _ (by simp [World.cell?, h]) hlim
  obtain ⟨n0, HN0⟩ : ∃ n0, Hid (n0 = H * stride W) := ⟨_, rfl⟩
  rw [← HN0.out] at hv HCl HTh
  subst hv
  unfold procV at *
  clear hd hb hbase hlim hH f3
  generalize sizeT t = Z at *
  generalize x.length = X at *
  generalize 2 ^ cntS t 2 - 1 = O at *
  go_enter Try.func8, Try.ntmps8
  go_wp2_with fail
  refine (HNP.out _).mono ?_
  rintro e w1 ⟨rfl, hf1⟩
  have HF1 : Hid (Fr (fun _ => False) w (w1.alloc (.cells #[.int .i64 base, .int .i64 t, .int .i64 Z, .int .i64 O, .bool false] 62))) := (((Fr.refl _ _).alloc _).trans hf1 (fun _ _ h => h)).alloc _
  have hs1 : w.heap.size < w1.heap.size := by have := hf1.size; simp at this; omega
  have HBX : Hid (∀ w', Fr (fun _ => False) (w1.alloc (.cells #[.int .i64 base, .int .i64 t, .int .i64 Z, .int .i64 O, .bool false] 62)) w' → w'.heap[w.heap.size]? = some (.cells #[.int .i64 W, .int .i64 H, .slice (some ⟨a0, o0, none⟩) n0 cv] 24 (0, 0)) ∧ w'.heap[w1.heap.size]? = some (.cells #[.int .i64 base, .int .i64 t, .int .i64 Z, .int .i64 O, .bool false] 62 (0, 0))) := fun w' f => by
    refine ⟨?_, ?_⟩
    · rw [f.block _ (by simp; omega) (fun h => h), Below.heap_alloc _ _ _ hs1, hf1.block _ (by simp) (fun h => h)]; exact heap_alloc_new w _
    · rw [f.block _ (by simp) (fun h => h)]; exact heap_alloc_new w1 _
  have hbx := HBX.out _ (Fr.refl _ _)
  obtain ⟨q0, q1, q2, qf⟩ := cell_of_three hbx.1
  clear hf1 hbx
  go_wp2_with fail
  generalize hwA : w1.alloc (.cells #[.int .i64 base, .int .i64 t, .int .i64 Z, .int .i64 O, .bool false] 62) = wA at *
  refine ((HB.out _ HF1.out).check).mono ?_
  rintro e w3 ⟨rfl, hf3⟩
  have HF3 : Hid (Fr (fun _ => False) wA w3) := hf3
  have HS3 : Hid (∀ w', Fr (fun _ => False) w3 w' → w'.cell? ⟨w1.heap.size, 0, none⟩ = some (.int .i64 base) ∧ w'.cell? ⟨w1.heap.size, 1, none⟩ = some (.int .i64 t) ∧ w'.cell? ⟨w1.heap.size, 2, none⟩ = some (.int .i64 Z) ∧ w'.cell? ⟨w1.heap.size, 3, none⟩ = some (.int .i64 O) ∧ w'.cell? ⟨w1.heap.size, 4, none⟩ = some (.bool false)) := fun w' f => by
    obtain ⟨p0, p1, p2, p3, p4, _⟩ := cell_of_five (HBX.out w' (HF3.out.trans f (fun _ _ h => h))).2
    exact ⟨p0, p1, p2, p3, p4⟩
  clear hf3 q0 q1 q2 qf hwA
  obtain ⟨p0, p1, p2, p3, p4⟩ := HS3.out w3 (Fr.refl _ _)
  go_wp2_with fail
  go_region_held3 (fun w' => w'.cell? ⟨w1.heap.size, 0, none⟩ = some (.int .i64 base) ∧ w'.cell? ⟨w1.heap.size, 1, none⟩ = some (.int .i64 t) ∧ w'.cell? ⟨w1.heap.size, 2, none⟩ = some (.int .i64 Z) ∧ w'.cell? ⟨w1.heap.size, 3, none⟩ = some (.int .i64 O) ∧ w'.cell? ⟨w1.heap.size, 4, none⟩ = some (.bool false)) (exact HS3.out _ (by repeat (first | with_reducible exact Fr.refl _ _ | with_reducible refine Fr.drew ?_ | with_reducible refine Fr.trans ?_ hf5 (fun _ _ hh => hh)))) (first | (go_at_call 25; refine (HCt.out _ ((HF1.out.trans HF3.out (fun _ _ h => h)).drew)).mono ?_; rintro e w4 ⟨rfl, rfl⟩) | (go_at_call 24; refine (HFt.out _).mono ?_; rintro e w5 ⟨rfl, hf5⟩))
  have HF5 : Hid (Fr (fun _ => False) wA w5) := HF3.out.drew.trans hf5 (fun _ _ h => h)
  clear hf5 p0 p1 p2 p3 p4
  obtain ⟨q0, q1, q2, qf⟩ := cell_of_three (HBX.out _ HF5.out).1
  go_wp2_with fail
  refine (HCl.out _ (HF1.out.trans HF5.out (fun _ _ h => h))).mono ?_
  rintro e w6 ⟨g, cap, rfl, hrow, hf6, hg6⟩
  have HF6 : Hid (Fr (fun _ => False) wA w6) := HF5.out.trans hf6 (fun _ _ h => h)
  have hbx6 := HBX.out _ HF6.out
  have hg7 : w.heap.size < g := by
    have h1 := (HF1.out.trans HF5.out (fun _ _ h => h)).size
    have h2 := lt_of_block (HBX.out _ HF5.out).1
    omega
  have HG : Hid (w.heap.size ≤ g) := Nat.le_of_lt hg7
  have HF7 : Hid (Fr (fun _ => False) w (w6.setCell ⟨w.heap.size, 2, none⟩ (.slice (some ⟨g, 0, none⟩) n0 cap))) := (HF1.out.trans HF6.out (fun _ _ h => h)).trans ((Fr.refl (fun k => k = w.heap.size) w6).setCell (p := ⟨w.heap.size, 2, none⟩) (fun _ => rfl) _) (fun i hi e => by omega)
  have HR7 : Hid (RowAt (w6.setCell ⟨w.heap.size, 2, none⟩ (.slice (some ⟨g, 0, none⟩) n0 cap)) g cap W H P) := hrow.kept ((Fr.refl (fun k => k = w.heap.size) w6).setCell (p := ⟨w.heap.size, 2, none⟩) (fun _ => rfl) _) (by omega)
  have hb7 : (w6.setCell ⟨w.heap.size, 2, none⟩ (.slice (some ⟨g, 0, none⟩) n0 cap)).heap[w.heap.size]? = some (.cells #[.int .i64 W, .int .i64 H, .slice (some ⟨g, 0, none⟩) n0 cap] 24 (0, 0)) := by simp [World.setCell, Array.getElem?_modify, hbx6.1]
  have hb8 : (w6.setCell ⟨w.heap.size, 2, none⟩ (.slice (some ⟨g, 0, none⟩) n0 cap)).heap[w1.heap.size]? = some (.cells #[.int .i64 base, .int .i64 t, .int .i64 Z, .int .i64 O, .bool false] 62 (0, 0)) := by rw [Below.heap_setCell _ _ _ _ (fun e => by have e2 : w1.heap.size = w.heap.size := e; omega)]; exact hbx6.2
  obtain ⟨y0, y1, y2, yf⟩ := cell_of_three hb7
  obtain ⟨z0, z1, z2, z3, z4, zf⟩ := cell_of_five hb8
  clear q0 q1 q2 qf
  obtain ⟨q0, q1, q2, qf⟩ := cell_of_three hbx6.1
  clear hrow hf6 hg6 hbx6 hb7 hb8 yf zf hg7
  go_wp2_with fail
  refine (HTh.out _ g cap HF7.out HR7.out).mono ?_
  rintro e w8 ⟨rfl, hf8⟩
  have H8 : Hid (Fr (fun _ => False) w w8) := HF7.out.trans hf8 (fun _ _ h => h)
  clear hf8
  go_wp2_with fail
  go_ret
  exact ⟨rfl, H8.out⟩

theorem runL_xlen : ∀ (l : List (Int × Nat)) (o : Co), (runL o l).x.length = o.x.length
  | [], _ => rfl
  | p :: l, o => by
    show (runL (putP o p.1 p.2) l).x.length = _
    rw [runL_xlen l]
    unfold putP
    rw [List.length_set]
theorem white_valid : validB 3 2 (render 3 2 (fun _ _ => false)) = true := by decide +kernel
theorem bad_valid : validB 3 2 [] = false := by decide +kernel
theorem size_may : sizeOK 0 5 = false := by decide +kernel
theorem size_t : sizeT 1 = 8192 ∧ sizeT 2 = 1024 ∧ sizeT 3 = 1024 := by decide +kernel
theorem newP_xlen (n : Nat) : (newP n).x.length = n := by simp [newP]
theorem newD_xlen (n : Nat) : (newD [] n).x.length = n := by simp [newD]
theorem seen_none (w : World) : Seen w (.slice none 0 0) [] := ⟨none, 0, rfl, by decide, fun h => absurd rfl h⟩
theorem mpT_none (w : World) : MpT w 3 2 (.slice none 0 0) [] := ⟨by omega, by omega, seen_none w, fun j => by simp⟩
theorem RowAt.mpT {w : World} {g : Nat} (h : RowAt w g 2 3 2 (fun _ _ => false)) : MpT w 3 2 (.slice (some ⟨g, 0, none⟩) 2 2) (render 3 2 (fun _ _ => false)) :=
  ⟨by omega, by omega, h.seen (by decide), render_lt' 3 2 _⟩

set_option maxRecDepth 100000 in
set_option maxHeartbeats 8000000 in
theorem refuses7_any (w : World) : Calls Try.prog 3 #[] w fun e w' => e = .returned (.bool true) ∧ Fr (fun _ => False) w w' := by
  obtain ⟨z1, z2, z3⟩ := size_t
  have HZ : Hid (sizeT 1 = 8192 ∧ sizeT 2 = 1024 ∧ sizeT 3 = 1024) := ⟨z1, z2, z3⟩
  clear z1 z2 z3
  have HW : Hid (∀ w', Calls Try.prog 5 #[.int .i64 3, .int .i64 2] w' fun e w'' => ∃ g, e = .returned (.agg #[.int .i64 3, .int .i64 2, .slice (some ⟨g, 0, none⟩) 2 2]) ∧ RowAt w'' g 2 3 2 (fun _ _ => false) ∧ Fr (fun _ => False) w' w'' ∧ w'.heap.size ≤ g) := fun w' => zwhite_any 3 2 w' (by omega) (by omega) (by omega)
  go_enter Try.func3, Try.ntmps3
  go_wp2_with fail
  refine (HW.out _).mono ?_
  rintro e w1 ⟨g, rfl, hr1, hf1, hg1⟩
  have HF0 : Hid (Fr (fun _ => False) w ((w1.alloc (.cells #[.int .i64 3, .int .i64 2, .slice (some ⟨g, 0, none⟩) 2 2] 24)).alloc (.cells #[.int .i64 3, .int .i64 2, .slice none 0 0] 24))) := (hf1.alloc _).alloc _
  have HR0 : Hid (RowAt ((w1.alloc (.cells #[.int .i64 3, .int .i64 2, .slice (some ⟨g, 0, none⟩) 2 2] 24)).alloc (.cells #[.int .i64 3, .int .i64 2, .slice none 0 0] 24)) g 2 3 2 (fun _ _ => false)) := hr1.kept (((Fr.refl (fun _ => False) w1).alloc _).alloc _) (fun h => h)
  have HBX : Hid (∀ w', Fr (fun _ => False) ((w1.alloc (.cells #[.int .i64 3, .int .i64 2, .slice (some ⟨g, 0, none⟩) 2 2] 24)).alloc (.cells #[.int .i64 3, .int .i64 2, .slice none 0 0] 24)) w' → w'.heap[w1.heap.size]? = some (.cells #[.int .i64 3, .int .i64 2, .slice (some ⟨g, 0, none⟩) 2 2] 24 (0, 0)) ∧ w'.heap[w1.heap.size + 1]? = some (.cells #[.int .i64 3, .int .i64 2, .slice none 0 0] 24 (0, 0))) := fun w' f => by
    have q2 := heap_alloc_new (w1.alloc (.cells #[.int .i64 3, .int .i64 2, .slice (some ⟨g, 0, none⟩) 2 2] 24)) (.cells #[.int .i64 3, .int .i64 2, .slice none 0 0] 24)
    have q1 := heap_alloc_new w1 (.cells #[.int .i64 3, .int .i64 2, .slice (some ⟨g, 0, none⟩) 2 2] 24)
    simp only [World.size_alloc] at q1 q2
    exact ⟨blkOld f (blkUp q1 _), blkOld f q2⟩
  clear hr1 hf1 hg1
  go_wp2_with fail
  generalize (w1.alloc (.cells #[.int .i64 3, .int .i64 2, .slice (some ⟨g, 0, none⟩) 2 2] 24)).alloc (.cells #[.int .i64 3, .int .i64 2, .slice none 0 0] 24) = w0 at *
  refine (new_any _ 1025 (by omega) (by omega)).mono ?_
  rintro e w2 ⟨bc, gc, gb, rfl, hc2, hf2, hb2, hg2, hl2⟩
  have HC2 : Hid (CoAt w2 bc gc 1025 gb 1 (newP 1025)) := hc2
  have HF2 : Hid (Fr (fun _ => False) w0 w2) := hf2
  have HS2 : Hid (w0.heap.size ≤ bc ∧ w0.heap.size ≤ gc ∧ w0.heap.size ≤ gb) := ⟨hb2, hg2, hl2⟩
  have HL2 : Hid (bc < w2.heap.size ∧ gc < w2.heap.size ∧ gb < w2.heap.size) := ⟨hc2.lt, hc2.xlt, hc2.blt⟩
  clear hc2 hf2 hb2 hg2 hl2
  go_wp2_with fail
  refine (newDecoder_any _ (.slice none 0 0) [] 1025 (by omega) (by omega) ⟨none, 0, rfl, by decide, fun h => absurd rfl h⟩ (Or.inl rfl) (by simp)).mono ?_
  rintro e w3 ⟨bd, gd, vb, rfl, hd3, hf3, hb3, hg3, hv3⟩
  have HD3 : Hid (DeAt w3 bd gd 1025 vb [] (newD [] 1025)) := hd3
  have HF3 : Hid (Fr (fun _ => False) w0 w3) := HF2.out.trans hf3 (fun _ _ h => h)
  have HC3 : Hid (CoAt w3 bc gc 1025 gb 1 (newP 1025)) := HC2.out.kept hf3 (fun h => h) (fun h => h) (fun h => h)
  have HS3 : Hid (w2.heap.size ≤ bd ∧ w2.heap.size ≤ gd ∧ ∀ k, vb.ownBlock = some k → w2.heap.size ≤ k) := ⟨hb3, hg3, hv3⟩
  have HT3 : Hid (bd < w3.heap.size ∧ gd < w3.heap.size ∧ ∀ k, vb.ownBlock = some k → k < w3.heap.size) := ⟨hd3.lt, hd3.xlt, fun k hk => (hd3.bs.lt k hk).2⟩
  have HMb : Hid (∀ w', Fr (fun _ => False) w0 w' → MpT w' 3 2 (.slice (some ⟨g, 0, none⟩) 2 2) (render 3 2 (fun _ _ => false))) := fun w' f => (HR0.out.kept f (fun h => h)).mpT
  have HBm : Hid (∀ w', Fr (fun _ => False) w0 w' → Bm w' (.slice (some ⟨g, 0, none⟩) 2 2) 3 2 (fun _ _ => false)) := fun w' f => (HR0.out.kept f (fun h => h)).bm (by omega) (by omega) (by omega)
  have HCx : Hid (∀ w', Fr (fun _ => False) w3 w' → Calls Try.prog 25 #[.pointer (some ⟨bc, 0, none⟩)] w' fun e w'' => e = .returned (.int .i64 (1025 : Nat)) ∧ w'' = w') := fun w' f => by
    obtain ⟨e0, _⟩ := cell_of_seven (HC3.out.kept f (fun x => x) (fun x => x) (fun x => x)).blk
    rw [newP_xlen] at e0
    exact contexts_at w' bc gc 1025 _ e0 (by omega)
  have HDk : Hid (∀ w', Fr (fun k => k = bc ∨ k = gc ∨ k = gb) w3 w' → DeAt w' bd gd 1025 vb [] (newD [] 1025)) := fun w' f => by
    have hl := HL2.out
    have hs := HS3.out
    exact HD3.out.kept f (by omega) (by omega) (fun k hk e => by have := hs.2.2 k hk; omega)
  have HDx : Hid (∀ w', Fr (fun k => k = bc ∨ k = gc ∨ k = gb) w3 w' → Calls Try.prog 25 #[.pointer (some ⟨bd, 0, none⟩)] w' fun e w'' => e = .returned (.int .i64 (1025 : Nat)) ∧ w'' = w') := fun w' f => by
    obtain ⟨e0, _⟩ := cell_of_seven (HDk.out w' f).blk
    rw [newD_xlen] at e0
    exact contexts_at w' bd gd 1025 _ e0 (by omega)
  have HFk : Hid (∀ w', Fr (fun k => k = bc ∨ k = gc ∨ k = gb) w3 w' → Fr (fun _ => False) w0 w') := fun w' f => HF3.out.trans f (fun i hi e => by have := HS2.out; omega)
  have HPn : Hid (∀ w', Calls Try.prog 8 #[.pointer none, .int .i64 0, .agg #[.int .i64 3, .int .i64 2, .slice none 0 0], .int .i64 9, .bool false] w' fun e w'' => e = .returned (.int .i64 53) ∧ Fr (fun _ => False) w' w'') := fun w' => gput_none 0 3 2 9 none 0 0 false w'
  have HPa : Hid (∀ w', Fr (fun _ => False) w3 w' → Calls Try.prog 8 #[.pointer (some ⟨bc, 0, none⟩), .int .i64 (-1), .agg #[.int .i64 3, .int .i64 2, .slice none 0 0], .int .i64 4, .bool false] w' fun e w'' => e = .returned (.int .i64 60) ∧ Fr (fun _ => False) w' w'') := fun w' _ => gput_badT bc (-1) 3 2 4 none 0 0 false w' (by omega)
  have HPb : Hid (∀ w', Fr (fun _ => False) w3 w' → Calls Try.prog 8 #[.pointer (some ⟨bc, 0, none⟩), .int .i64 (-1), .agg #[.int .i64 3, .int .i64 2, .slice none 0 0], .int .i64 2, .bool false] w' fun e w'' => e = .returned (.int .i64 62) ∧ Fr (fun _ => False) w' w'') := fun w' f => gput_bad bc 1025 (-1) 2 3 2 _ _ false w' (fun w2 f2 => HCx.out w2 (f.trans f2 (fun _ _ h => h))) (by omega) (mpT_none w') (by omega) 62 (by rw [bad_valid]; rfl) (fun h => by omega)
  have HPc : Hid (∀ w', Fr (fun _ => False) w3 w' → Calls Try.prog 8 #[.pointer (some ⟨bc, 0, none⟩), .int .i64 (-1), .agg #[.int .i64 3, .int .i64 2, .slice (some ⟨g, 0, none⟩) 2 2], .int .i64 2, .bool false] w' fun e w'' => e = .returned (.int .i64 51) ∧ Fr (fun _ => False) w' w'') := fun w' f => gput_bad bc 1025 (-1) 2 3 2 _ _ false w' (fun w2 f2 => HCx.out w2 (f.trans f2 (fun _ _ h => h))) (by omega) (HMb.out w' (HF3.out.trans f (fun _ _ h => h))) (by omega) 51 (by rw [white_valid]; rfl) (fun h => Or.inl (by omega))
  have HPd : Hid (∀ w', Fr (fun _ => False) w3 w' → Calls Try.prog 8 #[.pointer (some ⟨bc, 0, none⟩), .int .i64 1, .agg #[.int .i64 3, .int .i64 2, .slice (some ⟨g, 0, none⟩) 2 2], .int .i64 2, .bool false] w' fun e w'' => e = .returned (.int .i64 51) ∧ Fr (fun _ => False) w' w'') := fun w' f => gput_bad bc 1025 1 2 3 2 _ _ false w' (fun w2 f2 => HCx.out w2 (f.trans f2 (fun _ _ h => h))) (by omega) (HMb.out w' (HF3.out.trans f (fun _ _ h => h))) (by omega) 51 (by rw [white_valid]; rfl) (fun h => Or.inr (by rw [HZ.out.2.1]; omega))
  have HPe : Hid (∀ w', Fr (fun _ => False) w3 w' → Calls Try.prog 8 #[.pointer (some ⟨bc, 0, none⟩), .int .i64 0, .agg #[.int .i64 3, .int .i64 2, .slice (some ⟨g, 0, none⟩) 2 2], .int .i64 1, .bool true] w' fun e w'' => e = .returned (.int .i64 51) ∧ Fr (fun _ => False) w' w'') := fun w' f => gput_bad bc 1025 0 1 3 2 _ _ true w' (fun w2 f2 => HCx.out w2 (f.trans f2 (fun _ _ h => h))) (by omega) (HMb.out w' (HF3.out.trans f (fun _ _ h => h))) (by omega) 51 (by rw [white_valid]; rfl) (fun h => Or.inr (by rw [HZ.out.1]; omega))
  have HPf : Hid (∀ w', Fr (fun _ => False) w3 w' → Calls Try.prog 8 #[.pointer (some ⟨bc, 0, none⟩), .int .i64 9223372036854775807, .agg #[.int .i64 3, .int .i64 2, .slice (some ⟨g, 0, none⟩) 2 2], .int .i64 2, .bool false] w' fun e w'' => e = .returned (.int .i64 51) ∧ Fr (fun _ => False) w' w'') := fun w' f => gput_bad bc 1025 9223372036854775807 2 3 2 _ _ false w' (fun w2 f2 => HCx.out w2 (f.trans f2 (fun _ _ h => h))) (by omega) (HMb.out w' (HF3.out.trans f (fun _ _ h => h))) (by omega) 51 (by rw [white_valid]; rfl) (fun h => Or.inr (by rw [HZ.out.2.1]; omega))
  have HPg : Hid (∀ w', Fr (fun _ => False) w3 w' → Calls Try.prog 8 #[.pointer (some ⟨bc, 0, none⟩), .int .i64 0, .agg #[.int .i64 3, .int .i64 2, .slice (some ⟨g, 0, none⟩) 2 2], .int .i64 3, .bool true] w' fun e w'' => e = .returned (.int .i64 0) ∧ ∃ gb' cb' o', CoAt w'' bc gc 1025 gb' cb' o' ∧ Ook o' ∧ o'.x.length = 1025 ∧ (gb' = gb ∨ w'.heap.size ≤ gb') ∧ Fr (fun k => k = bc ∨ k = gc ∨ k = gb) w3 w'') := fun w' f => by
    refine (gput_ok bc gc 1025 gb 1 (newP 1025) 0 3 3 2 _ _ true w' (HC3.out.kept f (fun h => h) (fun h => h) (fun h => h)) (newP_ok (by omega) (by omega)) (HBm.out w' (HF3.out.trans f (fun _ _ h => h))) (by omega) (by rw [HZ.out.2.2, newP_xlen]; omega) (by show 0 + _ ≤ _; omega)).mono ?_
    rintro e w4 ⟨rfl, gb', cb', hc, ho, hst⟩
    exact ⟨rfl, gb', cb', _, hc, ho, by rw [runL_xlen, newP_xlen], hst.row, (f.mono (fun _ _ h => h.elim)).trans hst.fr (fun _ _ h => h)⟩
  have HGn : Hid (∀ w', Calls Try.prog 9 #[.pointer none, .int .i64 0, .int .i64 0, .int .i64 0, .int .i64 9, .bool false] w' fun e w'' => e = .returned (.tuple #[.agg #[.int .i64 0, .int .i64 0, .slice none 0 0], .int .i64 53]) ∧ Fr (fun _ => False) w' w'') := fun w' => gget_none 0 0 0 9 false w'
  have HGa : Hid (∀ w', Fr (fun k => k = bc ∨ k = gc ∨ k = gb) w3 w' → Calls Try.prog 9 #[.pointer (some ⟨bd, 0, none⟩), .int .i64 (-1), .int .i64 0, .int .i64 0, .int .i64 (-1), .bool false] w' fun e w'' => e = .returned (.tuple #[.agg #[.int .i64 0, .int .i64 0, .slice none 0 0], .int .i64 60]) ∧ Fr (fun _ => False) w' w'') := fun w' _ => gget_badT bd (-1) 0 0 (-1) false w' (by omega)
  have HGb : Hid (∀ w', Fr (fun k => k = bc ∨ k = gc ∨ k = gb) w3 w' → Calls Try.prog 9 #[.pointer (some ⟨bd, 0, none⟩), .int .i64 (-1), .int .i64 0, .int .i64 5, .int .i64 2, .bool false] w' fun e w'' => e = .returned (.tuple #[.agg #[.int .i64 0, .int .i64 0, .slice none 0 0], .int .i64 63]) ∧ Fr (fun _ => False) w' w'') := fun w' _ => gget_badA bd (-1) 2 0 5 false w' (by omega) (by omega) (by omega) size_may
  have HGc : Hid (∀ w', Fr (fun k => k = bc ∨ k = gc ∨ k = gb) w3 w' → Calls Try.prog 9 #[.pointer (some ⟨bd, 0, none⟩), .int .i64 (-1), .int .i64 5, .int .i64 5, .int .i64 2, .bool false] w' fun e w'' => e = .returned (.tuple #[.agg #[.int .i64 0, .int .i64 0, .slice none 0 0], .int .i64 51]) ∧ Fr (fun _ => False) w' w'') := fun w' f => gget_base bd 1025 (-1) 2 5 5 false w' (fun w2 f2 => HDx.out w2 (f.trans f2 (fun _ _ h => h.elim))) (by omega) (by omega) (by omega) (by omega) (by omega) (Or.inl (by omega))
  have HGd : Hid (∀ w', Fr (fun k => k = bc ∨ k = gc ∨ k = gb) w3 w' → Calls Try.prog 9 #[.pointer (some ⟨bd, 0, none⟩), .int .i64 0, .int .i64 5, .int .i64 5, .int .i64 2, .bool false] w' fun e w'' => ∃ gx cx Q, e = .returned (.tuple #[.agg #[.int .i64 5, .int .i64 5, .slice (some ⟨gx, 0, none⟩) 5 cx], .int .i64 0]) ∧ RowAt w'' gx cx 5 5 Q ∧ Fr (fun k => k = bd ∨ k = gd ∨ vb.ownBlock = some k) w' w'') := fun w' f => by
    refine (gget_ok bd gd 1025 vb [] (newD [] 1025) 0 2 5 5 false w' (HDk.out w' f) (newD_ok (by omega) (by omega) (by simp)) (by omega) (by omega) (by omega) (by omega) (by rw [HZ.out.2.1, newD_xlen]; omega) (by show 0 + _ ≤ _; omega)).mono ?_
    rintro e w4 ⟨gx, cx, rfl, hr, _, _, _, hf⟩
    exact ⟨gx, cx, _, rfl, hr, hf⟩
  clear hd3 hf3 hb3 hg3 hv3
  obtain ⟨b0, b1⟩ := HBX.out _ HF3.out
  obtain ⟨q0, q1, q2, qf⟩ := cell_of_three b0
  obtain ⟨p0, p1, p2, pf⟩ := cell_of_three b1
  clear b0 b1 qf pf
  go_wp2_with fail
  refine (HPn.out _).mono ?_
  rintro e w4 ⟨rfl, hf⟩
  have HG4 : Hid (Fr (fun _ => False) w3 w4) := hf
  clear hf q0 q1 q2 p0 p1 p2
  obtain ⟨b0, b1⟩ := HBX.out _ (HF3.out.trans HG4.out (fun _ _ h => h))
  obtain ⟨q0, q1, q2, qf⟩ := cell_of_three b0
  obtain ⟨p0, p1, p2, pf⟩ := cell_of_three b1
  clear b0 b1 qf pf
  go_wp2_with fail
  refine (HPa.out _ HG4.out).mono ?_
  rintro e w5 ⟨rfl, hf⟩
  have HG5 : Hid (Fr (fun _ => False) w3 w5) := HG4.out.trans hf (fun _ _ h => h)
  clear hf q0 q1 q2 p0 p1 p2
  obtain ⟨b0, b1⟩ := HBX.out _ (HF3.out.trans HG5.out (fun _ _ h => h))
  obtain ⟨q0, q1, q2, qf⟩ := cell_of_three b0
  obtain ⟨p0, p1, p2, pf⟩ := cell_of_three b1
  clear b0 b1 qf pf
  go_wp2_with fail
  refine (HPb.out _ HG5.out).mono ?_
  rintro e w6 ⟨rfl, hf⟩
  have HG6 : Hid (Fr (fun _ => False) w3 w6) := HG5.out.trans hf (fun _ _ h => h)
  clear hf q0 q1 q2 p0 p1 p2
  obtain ⟨b0, b1⟩ := HBX.out _ (HF3.out.trans HG6.out (fun _ _ h => h))
  obtain ⟨q0, q1, q2, qf⟩ := cell_of_three b0
  obtain ⟨p0, p1, p2, pf⟩ := cell_of_three b1
  clear b0 b1 qf pf
  go_wp2_with fail
  refine (HPc.out _ HG6.out).mono ?_
  rintro e w7 ⟨rfl, hf⟩
  have HG7 : Hid (Fr (fun _ => False) w3 w7) := HG6.out.trans hf (fun _ _ h => h)
  clear hf q0 q1 q2 p0 p1 p2
  obtain ⟨b0, b1⟩ := HBX.out _ (HF3.out.trans HG7.out (fun _ _ h => h))
  obtain ⟨q0, q1, q2, qf⟩ := cell_of_three b0
  obtain ⟨p0, p1, p2, pf⟩ := cell_of_three b1
  clear b0 b1 qf pf
  go_wp2_with fail
  refine (HPd.out _ HG7.out).mono ?_
  rintro e w8 ⟨rfl, hf⟩
  have HG8 : Hid (Fr (fun _ => False) w3 w8) := HG7.out.trans hf (fun _ _ h => h)
  clear hf q0 q1 q2 p0 p1 p2
  obtain ⟨b0, b1⟩ := HBX.out _ (HF3.out.trans HG8.out (fun _ _ h => h))
  obtain ⟨q0, q1, q2, qf⟩ := cell_of_three b0
  obtain ⟨p0, p1, p2, pf⟩ := cell_of_three b1
  clear b0 b1 qf pf
  go_wp2_with fail
  refine (HPe.out _ HG8.out).mono ?_
  rintro e w9 ⟨rfl, hf⟩
  have HG9 : Hid (Fr (fun _ => False) w3 w9) := HG8.out.trans hf (fun _ _ h => h)
  clear hf q0 q1 q2 p0 p1 p2
  obtain ⟨b0, b1⟩ := HBX.out _ (HF3.out.trans HG9.out (fun _ _ h => h))
  obtain ⟨q0, q1, q2, qf⟩ := cell_of_three b0
  obtain ⟨p0, p1, p2, pf⟩ := cell_of_three b1
  clear b0 b1 qf pf
  go_wp2_with fail
  refine (HPf.out _ HG9.out).mono ?_
  rintro e w10 ⟨rfl, hf⟩
  have HG10 : Hid (Fr (fun _ => False) w3 w10) := HG9.out.trans hf (fun _ _ h => h)
  clear hf q0 q1 q2 p0 p1 p2
  obtain ⟨b0, b1⟩ := HBX.out _ (HF3.out.trans HG10.out (fun _ _ h => h))
  obtain ⟨q0, q1, q2, qf⟩ := cell_of_three b0
  obtain ⟨p0, p1, p2, pf⟩ := cell_of_three b1
  clear b0 b1 qf pf
  go_wp2_with fail
  refine (HPg.out _ HG10.out).mono ?_
  rintro e w11 ⟨rfl, gb', cb', o', hc, ho, hol, hgb, hf⟩
  have HG11 : Hid (Fr (fun k => k = bc ∨ k = gc ∨ k = gb) w3 w11) := hf
  have HCn : Hid (CoAt w11 bc gc 1025 gb' cb' o' ∧ Ook o' ∧ o'.x.length = 1025) := ⟨hc, ho, hol⟩
  have HGB : Hid (gb' = gb ∨ w3.heap.size ≤ gb') := by
    rcases hgb with h | h
    · exact Or.inl h
    · exact Or.inr (Nat.le_trans HG10.out.size h)
  clear hf hc ho hol hgb q0 q1 q2 p0 p1 p2
  obtain ⟨b0, b1⟩ := HBX.out _ (HFk.out _ HG11.out)
  obtain ⟨q0, q1, q2, qf⟩ := cell_of_three b0
  obtain ⟨p0, p1, p2, pf⟩ := cell_of_three b1
  clear b0 b1 qf pf
  go_wp2_with fail
  refine (HGn.out _).mono ?_
  rintro e w12 ⟨rfl, hf⟩
  have HG12 : Hid (Fr (fun k => k = bc ∨ k = gc ∨ k = gb) w3 w12) := (HG11.out.trans hf (fun _ _ h => h.elim))
  have HCf12 : Hid (Fr (fun _ => False) w11 w12) := hf
  clear hf q0 q1 q2 p0 p1 p2
  obtain ⟨b0, b1⟩ := HBX.out _ (HFk.out _ HG12.out)
  obtain ⟨q0, q1, q2, qf⟩ := cell_of_three b0
  obtain ⟨p0, p1, p2, pf⟩ := cell_of_three b1
  clear b0 b1 qf pf
  go_wp2_with fail
  refine (HGa.out _ HG12.out).mono ?_
  rintro e w13 ⟨rfl, hf⟩
  have HG13 : Hid (Fr (fun k => k = bc ∨ k = gc ∨ k = gb) w3 w13) := (HG12.out.trans hf (fun _ _ h => h.elim))
  have HCf13 : Hid (Fr (fun _ => False) w11 w13) := (HCf12.out.trans hf (fun _ _ h => h))
  clear hf q0 q1 q2 p0 p1 p2
  obtain ⟨b0, b1⟩ := HBX.out _ (HFk.out _ HG13.out)
  obtain ⟨q0, q1, q2, qf⟩ := cell_of_three b0
  obtain ⟨p0, p1, p2, pf⟩ := cell_of_three b1
  clear b0 b1 qf pf
  go_wp2_with fail
  refine (HGb.out _ HG13.out).mono ?_
  rintro e w14 ⟨rfl, hf⟩
  have HG14 : Hid (Fr (fun k => k = bc ∨ k = gc ∨ k = gb) w3 (w14.alloc (.cells #[.int .i64 0, .int .i64 0, .slice none 0 0] 24))) := (HG13.out.trans hf (fun _ _ h => h.elim)).alloc _
  have HCf14 : Hid (Fr (fun _ => False) w11 (w14.alloc (.cells #[.int .i64 0, .int .i64 0, .slice none 0 0] 24))) := (HCf13.out.trans hf (fun _ _ h => h)).alloc _
  clear hf q0 q1 q2 p0 p1 p2
  obtain ⟨b0, b1⟩ := HBX.out _ (HFk.out _ HG14.out)
  obtain ⟨q0, q1, q2, qf⟩ := cell_of_three b0
  obtain ⟨p0, p1, p2, pf⟩ := cell_of_three b1
  clear b0 b1 qf pf
  go_wp2_with fail
  refine (HGc.out _ HG14.out).mono ?_
  rintro e w15 ⟨rfl, hf⟩
  have HG15 : Hid (Fr (fun k => k = bc ∨ k = gc ∨ k = gb) w3 (w15.alloc (.cells #[.int .i64 0, .int .i64 0, .slice none 0 0] 24))) := (HG14.out.trans hf (fun _ _ h => h.elim)).alloc _
  have HCf15 : Hid (Fr (fun _ => False) w11 (w15.alloc (.cells #[.int .i64 0, .int .i64 0, .slice none 0 0] 24))) := (HCf14.out.trans hf (fun _ _ h => h)).alloc _
  clear hf q0 q1 q2 p0 p1 p2
  obtain ⟨b0, b1⟩ := HBX.out _ (HFk.out _ HG15.out)
  obtain ⟨q0, q1, q2, qf⟩ := cell_of_three b0
  obtain ⟨p0, p1, p2, pf⟩ := cell_of_three b1
  clear b0 b1 qf pf
  go_wp2_with fail
  refine (HGd.out _ HG15.out).mono ?_
  rintro e w16 ⟨gx, cx, Q, rfl, hrx, hf⟩
  have HGx : Hid (Fr (fun _ => False) w0 (w16.alloc (.cells #[.int .i64 5, .int .i64 5, .slice (some ⟨gx, 0, none⟩) 5 cx] 24))) := ((HFk.out _ HG15.out).trans hf (fun k hk e => by
    have h1 := HS3.out
    have h2 := HL2.out
    have h3 := HS2.out
    rcases e with e | e | e
    · omega
    · omega
    · have := h1.2.2 k e; omega)).alloc _
  have HRx : Hid (∀ w', Fr (fun _ => False) (w16.alloc (.cells #[.int .i64 5, .int .i64 5, .slice (some ⟨gx, 0, none⟩) 5 cx] 24)) w' → RowAt w' gx cx 5 5 Q) := fun w' f => hrx.kept (((Fr.refl (fun _ => False) w16).alloc _).trans f (fun _ _ h => h)) (fun h => h)
  have HXb : Hid (∀ w', Fr (fun _ => False) (w16.alloc (.cells #[.int .i64 5, .int .i64 5, .slice (some ⟨gx, 0, none⟩) 5 cx] 24)) w' → w'.heap[w16.heap.size]? = some (.cells #[.int .i64 5, .int .i64 5, .slice (some ⟨gx, 0, none⟩) 5 cx] 24 (0, 0))) := fun w' f => blkOld f (heap_alloc_new _ _)
  have HCx2 : Hid (∀ w', Fr (fun _ => False) (w16.alloc (.cells #[.int .i64 5, .int .i64 5, .slice (some ⟨gx, 0, none⟩) 5 cx] 24)) w' → CoAt w' bc gc 1025 gb' cb' o') := fun w' f => by
    have h1 := HS3.out
    have h2 := HL2.out
    have h4 := HT3.out
    have h5 := HGB.out
    have fa := ((HCf15.out.mono (fun _ _ h => h.elim)).trans hf (fun _ _ h => h)).trans (((Fr.refl (fun k => k = bd ∨ k = gd ∨ vb.ownBlock = some k) w16).alloc _).trans (f.mono (fun _ _ h => h.elim)) (fun _ _ h => h)) (fun _ _ h => h)
    refine HCn.out.1.kept fa (fun e => ?_) (fun e => ?_) (fun e => ?_)
    · rcases e with e | e | e
      · omega
      · omega
      · have := h1.2.2 _ e; omega
    · rcases e with e | e | e
      · omega
      · omega
      · have := h1.2.2 _ e; omega
    · rcases e with e | e | e
      · omega
      · omega
      · have := h1.2.2 _ e; have := h4.2.2 _ e; omega
  have HMy : Hid (∀ w', Fr (fun _ => False) (w16.alloc (.cells #[.int .i64 5, .int .i64 5, .slice (some ⟨gx, 0, none⟩) 5 cx] 24)) w' → Calls Try.prog 10 #[.agg #[.int .i64 5, .int .i64 5, .slice (some ⟨gx, 0, none⟩) 5 cx]] w' fun e w'' => e = .returned (.bool true) ∧ Fr (fun _ => False) w' w'') := fun w' f => by
    have h1 := may_any 5 5 (.slice (some ⟨gx, 0, none⟩) 5 cx) (render 5 5 Q) w' (by omega) (by omega) ((HRx.out w' f).seen (by decide)) (render_lt' 5 5 Q)
    rwa [show validB 5 5 (render 5 5 Q) = true from render_valid 5 5 Q (by omega) (by omega) (by omega)] at h1
  clear hf hrx q0 q1 q2 p0 p1 p2
  obtain ⟨b0, b1⟩ := HBX.out _ HGx.out
  obtain ⟨q0, q1, q2, qf⟩ := cell_of_three b0
  obtain ⟨r0, r1, r2, rf⟩ := cell_of_three (HXb.out _ (Fr.refl _ _))
  clear b0 b1 qf rf
  go_wp2_with fail
  generalize w16.alloc (.cells #[.int .i64 5, .int .i64 5, .slice (some ⟨gx, 0, none⟩) 5 cx] 24) = wx at *
  refine (HMy.out _ (Fr.refl _ _)).mono ?_
  rintro e wy ⟨rfl, hfy⟩
  have HFy : Hid (Fr (fun _ => False) w0 wy) := HGx.out.trans hfy (fun _ _ h => h)
  have HCy : Hid (CoAt wy bc gc 1025 gb' cb' o') := HCx2.out wy hfy
  clear hfy q0 q1 q2 r0 r1 r2
  go_wp2_with fail
  refine (flush_any _ bc gc 1025 gb' cb' o' HCy.out HCn.out.2.1).mono ?_
  rintro e wz ⟨gf, nf, cf, rfl, -, hdo, hstep, -, -⟩
  have HFz : Hid (Fr (fun _ => False) w0 wz) := HFy.out.trans hstep.fr (fun k hk e => by
    have h1 := HS2.out
    have h2 := HGB.out
    have h3 := HF3.out.size
    omega)
  have HDo : Hid (DoAt wz bc gc 1025 o'.x) := hdo
  have HPz : Hid (Calls Try.prog 8 #[.pointer (some ⟨bc, 0, none⟩), .int .i64 0, .agg #[.int .i64 3, .int .i64 2, .slice (some ⟨g, 0, none⟩) 2 2], .int .i64 2, .bool false] wz fun e w'' => e = .returned (.int .i64 43) ∧ Fr (fun _ => False) wz w'') := gput_done bc gc 1025 o'.x 0 2 3 2 _ _ wz hdo (by rw [HCn.out.2.2]; omega) (HBm.out wz HFz.out) (by omega) (by rw [HCn.out.2.2, HZ.out.2.1]; omega)
  clear hdo hstep
  obtain ⟨b0, b1⟩ := HBX.out _ HFz.out
  obtain ⟨q0, q1, q2, qf⟩ := cell_of_three b0
  clear b0 b1 qf
  go_wp2_with fail
  refine Calls.mono HPz.out ?_
  rintro e wv ⟨rfl, hfv⟩
  have HFv : Hid (Fr (fun _ => False) w0 wv) := HFz.out.trans hfv (fun _ _ h => h)
  clear hfv q0 q1 q2
  go_wp2_with fail
  refine (wakes7 _).mono ?_
  rintro e wu ⟨rfl, hfu⟩
  have HZz : Hid (Fr (fun _ => False) w wu) := (HF0.out.trans HFv.out (fun _ _ h => h)).trans hfu (fun _ _ h => h)
  clear hfu
  go_wp2_with fail
  go_ret
  exact ⟨rfl, HZz.out⟩

end Go.Proofs.Ytkggdnkmaldmlab
