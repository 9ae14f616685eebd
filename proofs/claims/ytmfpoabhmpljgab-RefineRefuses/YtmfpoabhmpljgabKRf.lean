/- The law 'RefineRefuses'. -/
import Derived.Test.YtmfpoabhmpljgabKBd
import Derived.Test.YtmfpoabhmpljgabK24
namespace Go.Proofs.Ytmfpoabhmpljgab
open Go.RowKit

theorem white_valid : validB 3 2 (render 3 2 (fun _ _ => false)) = true := by decide +kernel
theorem bad_valid : validB 3 2 [] = false := by decide +kernel
theorem far_may : mayS (-1048577) 0 = false ∧ mayS 0 1048577 = false ∧ mayS 1048577 0 = false ∧ mayS 0 0 = true := by decide +kernel
theorem size_may : sizeOK 0 1 = false ∧ sizeOK 1 1 = true := by decide +kernel
theorem newP_xlen (n : Nat) : (newP n).x.length = n := by simp [newP]
theorem newD_xlen (n : Nat) : (newD [] n).x.length = n := by simp [newD]
theorem newP_base (b : Int) (h : b = 1 ∨ b = -1) : b < 0 ∨ ((newP 8192).x.length : Int) - 8192 < b := by
  rw [newP_xlen]; omega
theorem seen_none (w : World) : Seen w (.slice none 0 0) [] := ⟨none, 0, rfl, by decide, fun h => absurd rfl h⟩
theorem mpT_none (w : World) : MpT w 3 2 (.slice none 0 0) [] := ⟨by omega, by omega, seen_none w, fun j => by simp⟩
theorem RowAt.mpT {w : World} {g : Nat} (h : RowAt w g 2 3 2 (fun _ _ => false)) : MpT w 3 2 (.slice (some ⟨g, 0, none⟩) 2 2) (render 3 2 (fun _ _ => false)) :=
  ⟨by omega, by omega, h.seen (by decide), render_lt' 3 2 _⟩

set_option maxRecDepth 100000 in
set_option maxHeartbeats 8000000 in
theorem refuses8_any (w : World) : Calls Try.prog 3 #[] w fun e w' => e = .returned (.bool true) ∧ Fr (fun _ => False) w w' := by
  have HW : Hid (∀ w', Calls Try.prog 4 #[.int .i64 3, .int .i64 2] w' fun e w'' => ∃ g, e = .returned (.agg #[.int .i64 3, .int .i64 2, .slice (some ⟨g, 0, none⟩) 2 2]) ∧ RowAt w'' g 2 3 2 (fun _ _ => false) ∧ Fr (fun _ => False) w' w'' ∧ w'.heap.size ≤ g) := fun w' => zwhite_any 3 2 w' (by omega) (by omega) (by omega)
  go_enter Try.func3, Try.ntmps3
  go_wp2_with fail
  refine (HW.out _).mono ?_
  rintro e w1 ⟨g, rfl, hr1, hf1, hg1⟩
  have HF0 : Hid (Fr (fun _ => False) w ((w1.alloc (.cells #[.int .i64 3, .int .i64 2, .slice (some ⟨g, 0, none⟩) 2 2] 24)).alloc (.cells #[.int .i64 3, .int .i64 2, .slice none 0 0] 24))) := (hf1.alloc _).alloc _
  have HR0 : Hid (RowAt ((w1.alloc (.cells #[.int .i64 3, .int .i64 2, .slice (some ⟨g, 0, none⟩) 2 2] 24)).alloc (.cells #[.int .i64 3, .int .i64 2, .slice none 0 0] 24)) g 2 3 2 (fun _ _ => false)) := hr1.kept (((Fr.refl (fun _ => False) w1).alloc _).alloc _) (fun h => h)
  have HBX : Hid (∀ w', Fr (fun _ => False) ((w1.alloc (.cells #[.int .i64 3, .int .i64 2, .slice (some ⟨g, 0, none⟩) 2 2] 24)).alloc (.cells #[.int .i64 3, .int .i64 2, .slice none 0 0] 24)) w' → w'.heap[w1.heap.size]? = some (.cells #[.int .i64 3, .int .i64 2, .slice (some ⟨g, 0, none⟩) 2 2] 24 (0, 0)) ∧ w'.heap[w1.heap.size + 1]? = some (.cells #[.int .i64 3, .int .i64 2, .slice none 0 0] 24 (0, 0))) := fun w' f => by
    have q2 := heap_alloc_new (w1.alloc (.cells #[.int .i64 3, .int .i64 2, .slice (some ⟨g, 0, none⟩) 2 2] 24)) (.cells #[.int .i64 3, .int .i64 2, .slice none 0 0] 24)
    have q1 := heap_alloc_new w1 (.cells #[.int .i64 3, .int .i64 2, .slice (some ⟨g, 0, none⟩) 2 2] 24)
    simp only [World.size_alloc] at q1 q2
    exact ⟨blkOld f (blkUp q1 _), blkOld f q2⟩
  clear hr1 hf1 hg1
  go_wp2_with fail
  generalize (w1.alloc (.cells #[.int .i64 3, .int .i64 2, .slice (some ⟨g, 0, none⟩) 2 2] 24)).alloc (.cells #[.int .i64 3, .int .i64 2, .slice none 0 0] 24) = w0 at *
  refine (new_any _ 8192 (by omega) (by omega)).mono ?_
  rintro e w2 ⟨bc, gc, gb, rfl, hc2, hf2, hb2, hg2, hl2⟩
  have HC2 : Hid (CoAt w2 bc gc 8192 gb 1 (newP 8192)) := hc2
  have HF2 : Hid (Fr (fun _ => False) w0 w2) := hf2
  have HS2 : Hid (w0.heap.size ≤ bc ∧ w0.heap.size ≤ gc ∧ w0.heap.size ≤ gb) := ⟨hb2, hg2, hl2⟩
  have HL2 : Hid (bc < w2.heap.size ∧ gc < w2.heap.size ∧ gb < w2.heap.size) := ⟨hc2.lt, hc2.xlt, hc2.blt⟩
  clear hc2 hf2 hb2 hg2 hl2
  go_wp2_with fail
  refine (newDecoder_any _ (.slice none 0 0) [] 8192 (by omega) (by omega) ⟨none, 0, rfl, by decide, fun h => absurd rfl h⟩ (Or.inl rfl) (by simp)).mono ?_
  rintro e w3 ⟨bd, gd, vb, rfl, hd3, hf3, hb3, hg3, hv3⟩
  have HD3 : Hid (DeAt w3 bd gd 8192 vb [] (newD [] 8192)) := hd3
  have HF3 : Hid (Fr (fun _ => False) w0 w3) := HF2.out.trans hf3 (fun _ _ h => h)
  have HC3 : Hid (CoAt w3 bc gc 8192 gb 1 (newP 8192)) := HC2.out.kept hf3 (fun h => h) (fun h => h) (fun h => h)
  have HS3 : Hid (w2.heap.size ≤ bd ∧ w2.heap.size ≤ gd ∧ ∀ k, vb.ownBlock = some k → w2.heap.size ≤ k) := ⟨hb3, hg3, hv3⟩
  have HMb : Hid (∀ w', Fr (fun _ => False) w0 w' → MpT w' 3 2 (.slice (some ⟨g, 0, none⟩) 2 2) (render 3 2 (fun _ _ => false))) := fun w' f => (HR0.out.kept f (fun h => h)).mpT
  have HPn : Hid (∀ w', Calls Try.prog 7 #[.pointer none, .int .i64 0, .agg #[.int .i64 3, .int .i64 2, .slice none 0 0], .agg #[.int .i64 3, .int .i64 2, .slice (some ⟨g, 0, none⟩) 2 2], .int .i64 0, .int .i64 0] w' fun e w'' => e = .returned (.int .i64 53) ∧ Fr (fun _ => False) w' w'') := fun w' => put_none 0 3 2 none 0 0 3 2 _ 2 2 0 0 w'
  have HPa : Hid (∀ w', Fr (fun _ => False) w3 w' → Calls Try.prog 7 #[.pointer (some ⟨bc, 0, none⟩), .int .i64 1, .agg #[.int .i64 3, .int .i64 2, .slice none 0 0], .agg #[.int .i64 3, .int .i64 2, .slice (some ⟨g, 0, none⟩) 2 2], .int .i64 1048577, .int .i64 0] w' fun e w'' => e = .returned (.int .i64 62) ∧ Fr (fun _ => False) w' w'') := fun w' f =>
    put_refused bc gc 8192 gb 1 (newP 8192) 1 3 2 _ [] 3 2 _ _ 1048577 0 w' (HC3.out.kept f (fun h => h) (fun h => h) (fun h => h)) (newP_ok (by omega) (by omega)) (mpT_none w') (HMb.out w' (HF3.out.trans f (fun _ _ h => h))) 62 (by rw [bad_valid]; rfl) (fun h => by omega)
  have HPb : Hid (∀ w', Fr (fun _ => False) w3 w' → Calls Try.prog 7 #[.pointer (some ⟨bc, 0, none⟩), .int .i64 1, .agg #[.int .i64 3, .int .i64 2, .slice (some ⟨g, 0, none⟩) 2 2], .agg #[.int .i64 3, .int .i64 2, .slice none 0 0], .int .i64 1048577, .int .i64 0] w' fun e w'' => e = .returned (.int .i64 62) ∧ Fr (fun _ => False) w' w'') := fun w' f =>
    put_refused bc gc 8192 gb 1 (newP 8192) 1 3 2 _ _ 3 2 _ [] 1048577 0 w' (HC3.out.kept f (fun h => h) (fun h => h) (fun h => h)) (newP_ok (by omega) (by omega)) (HMb.out w' (HF3.out.trans f (fun _ _ h => h))) (mpT_none w') 62 (by rw [bad_valid, white_valid]; rfl) (fun h => by omega)
  have HPc : Hid (∀ w', Fr (fun _ => False) w3 w' → Calls Try.prog 7 #[.pointer (some ⟨bc, 0, none⟩), .int .i64 1, .agg #[.int .i64 3, .int .i64 2, .slice (some ⟨g, 0, none⟩) 2 2], .agg #[.int .i64 3, .int .i64 2, .slice (some ⟨g, 0, none⟩) 2 2], .int .i64 (-1048577), .int .i64 0] w' fun e w'' => e = .returned (.int .i64 70) ∧ Fr (fun _ => False) w' w'') := fun w' f =>
    put_refused bc gc 8192 gb 1 (newP 8192) 1 3 2 _ _ 3 2 _ _ (-1048577) 0 w' (HC3.out.kept f (fun h => h) (fun h => h) (fun h => h)) (newP_ok (by omega) (by omega)) (HMb.out w' (HF3.out.trans f (fun _ _ h => h))) (HMb.out w' (HF3.out.trans f (fun _ _ h => h))) 70 (by rw [white_valid, far_may.1]; rfl) (fun h => by omega)
  have HPd : Hid (∀ w', Fr (fun _ => False) w3 w' → Calls Try.prog 7 #[.pointer (some ⟨bc, 0, none⟩), .int .i64 1, .agg #[.int .i64 3, .int .i64 2, .slice (some ⟨g, 0, none⟩) 2 2], .agg #[.int .i64 3, .int .i64 2, .slice (some ⟨g, 0, none⟩) 2 2], .int .i64 0, .int .i64 1048577] w' fun e w'' => e = .returned (.int .i64 70) ∧ Fr (fun _ => False) w' w'') := fun w' f =>
    put_refused bc gc 8192 gb 1 (newP 8192) 1 3 2 _ _ 3 2 _ _ 0 1048577 w' (HC3.out.kept f (fun h => h) (fun h => h) (fun h => h)) (newP_ok (by omega) (by omega)) (HMb.out w' (HF3.out.trans f (fun _ _ h => h))) (HMb.out w' (HF3.out.trans f (fun _ _ h => h))) 70 (by rw [white_valid, far_may.2.1]; rfl) (fun h => by omega)
  have HPe : Hid (∀ w' (b : Int), b = 1 ∨ b = -1 → Fr (fun _ => False) w3 w' → Calls Try.prog 7 #[.pointer (some ⟨bc, 0, none⟩), .int .i64 b, .agg #[.int .i64 3, .int .i64 2, .slice (some ⟨g, 0, none⟩) 2 2], .agg #[.int .i64 3, .int .i64 2, .slice (some ⟨g, 0, none⟩) 2 2], .int .i64 0, .int .i64 0] w' fun e w'' => e = .returned (.int .i64 51) ∧ Fr (fun _ => False) w' w'') := fun w' b hb f =>
    put_refused bc gc 8192 gb 1 (newP 8192) b 3 2 _ _ 3 2 _ _ 0 0 w' (HC3.out.kept f (fun h => h) (fun h => h) (fun h => h)) (newP_ok (by omega) (by omega)) (HMb.out w' (HF3.out.trans f (fun _ _ h => h))) (HMb.out w' (HF3.out.trans f (fun _ _ h => h))) 51 (by rw [white_valid, far_may.2.2.2]; rfl) (fun _ => newP_base b hb)
  have HPf : Hid (∀ w', Fr (fun _ => False) w3 w' → Calls Try.prog 7 #[.pointer (some ⟨bc, 0, none⟩), .int .i64 0, .agg #[.int .i64 3, .int .i64 2, .slice (some ⟨g, 0, none⟩) 2 2], .agg #[.int .i64 3, .int .i64 2, .slice (some ⟨g, 0, none⟩) 2 2], .int .i64 0, .int .i64 0] w' fun e w'' => e = .returned (.int .i64 0) ∧ Fr (fun k => k = bc ∨ k = gc ∨ k = gb) w3 w'') := fun w' f => by
    have hl := HL2.out
    have hs := HS2.out
    refine (rfput_ok bc gc 8192 gb 1 (newP 8192) 0 3 2 _ _ 3 2 _ _ 0 0 w' (HC3.out.kept f (fun h => h) (fun h => h) (fun h => h)) (newP_ok (by omega) (by omega)) ((HR0.out.kept (HF3.out.trans f (fun _ _ h => h)) (fun h => h)).bm (by omega) (by omega) (by omega)) (fun w2 f2 => (HR0.out.kept ((HF3.out.trans f (fun _ _ h => h)).trans f2 (fun i hi e => by omega)) (fun h => h)).bm (by omega) (by omega) (by omega)) (by omega) (by omega) (by rw [newP_xlen]; omega) (by show 0 + _ ≤ _; omega)).mono ?_
    rintro e w4 ⟨rfl, gb', cb', _, _, hst⟩
    exact ⟨rfl, (f.mono (fun _ _ h => h.elim)).trans hst.fr (fun _ _ h => h)⟩
  have HDk : Hid (∀ w', Fr (fun k => k = bc ∨ k = gc ∨ k = gb) w3 w' → DeAt w' bd gd 8192 vb [] (newD [] 8192)) := fun w' f => by
    have hl := HL2.out
    have hs := HS3.out
    exact HD3.out.kept f (by omega) (by omega) (fun k hk e => by have := hs.2.2 k hk; omega)
  have HFk : Hid (∀ w', Fr (fun k => k = bc ∨ k = gc ∨ k = gb) w3 w' → Fr (fun _ => False) w0 w') := fun w' f => HF3.out.trans f (fun i hi e => by have := HS2.out; omega)
  have HGn : Hid (∀ w', Calls Try.prog 8 #[.pointer none, .int .i64 0, .int .i64 1, .int .i64 1, .agg #[.int .i64 3, .int .i64 2, .slice none 0 0], .int .i64 0, .int .i64 0] w' fun e w'' => e = .returned (.tuple #[.agg #[.int .i64 0, .int .i64 0, .slice none 0 0], .int .i64 53]) ∧ Fr (fun _ => False) w' w'') := fun w' => get_none 0 1 1 3 2 none 0 0 0 0 w'
  have HEk : Eok [] (newD [] 8192) := newD_ok (by omega) (by omega) (by simp)
  have HGa : Hid (∀ w', Fr (fun k => k = bc ∨ k = gc ∨ k = gb) w3 w' → Calls Try.prog 8 #[.pointer (some ⟨bd, 0, none⟩), .int .i64 1, .int .i64 0, .int .i64 1, .agg #[.int .i64 3, .int .i64 2, .slice none 0 0], .int .i64 1048577, .int .i64 0] w' fun e w'' => e = .returned (.tuple #[.agg #[.int .i64 0, .int .i64 0, .slice none 0 0], .int .i64 62]) ∧ Fr (fun _ => False) w' w'') := fun w' f =>
    get_refused bd gd 8192 vb [] (newD [] 8192) 1 0 1 3 2 _ [] 1048577 0 w' (HDk.out w' f) HEk (by omega) (by omega) (mpT_none w') 62 (by rw [bad_valid]; rfl) (fun h => by omega)
  have HGb : Hid (∀ w', Fr (fun k => k = bc ∨ k = gc ∨ k = gb) w3 w' → Calls Try.prog 8 #[.pointer (some ⟨bd, 0, none⟩), .int .i64 1, .int .i64 0, .int .i64 1, .agg #[.int .i64 3, .int .i64 2, .slice (some ⟨g, 0, none⟩) 2 2], .int .i64 1048577, .int .i64 0] w' fun e w'' => e = .returned (.tuple #[.agg #[.int .i64 0, .int .i64 0, .slice none 0 0], .int .i64 63]) ∧ Fr (fun _ => False) w' w'') := fun w' f =>
    get_refused bd gd 8192 vb [] (newD [] 8192) 1 0 1 3 2 _ _ 1048577 0 w' (HDk.out w' f) HEk (by omega) (by omega) (HMb.out w' (HFk.out w' f)) 63 (by rw [white_valid, size_may.1]; rfl) (fun h => by omega)
  have HGc : Hid (∀ w', Fr (fun k => k = bc ∨ k = gc ∨ k = gb) w3 w' → Calls Try.prog 8 #[.pointer (some ⟨bd, 0, none⟩), .int .i64 1, .int .i64 1, .int .i64 1, .agg #[.int .i64 3, .int .i64 2, .slice (some ⟨g, 0, none⟩) 2 2], .int .i64 1048577, .int .i64 0] w' fun e w'' => e = .returned (.tuple #[.agg #[.int .i64 0, .int .i64 0, .slice none 0 0], .int .i64 70]) ∧ Fr (fun _ => False) w' w'') := fun w' f =>
    get_refused bd gd 8192 vb [] (newD [] 8192) 1 1 1 3 2 _ _ 1048577 0 w' (HDk.out w' f) HEk (by omega) (by omega) (HMb.out w' (HFk.out w' f)) 70 (by rw [white_valid, size_may.2, far_may.2.2.1]; rfl) (fun h => by omega)
  have HGd : Hid (∀ w', Fr (fun k => k = bc ∨ k = gc ∨ k = gb) w3 w' → Calls Try.prog 8 #[.pointer (some ⟨bd, 0, none⟩), .int .i64 1, .int .i64 1, .int .i64 1, .agg #[.int .i64 3, .int .i64 2, .slice (some ⟨g, 0, none⟩) 2 2], .int .i64 0, .int .i64 0] w' fun e w'' => e = .returned (.tuple #[.agg #[.int .i64 0, .int .i64 0, .slice none 0 0], .int .i64 51]) ∧ Fr (fun _ => False) w' w'') := fun w' f =>
    get_refused bd gd 8192 vb [] (newD [] 8192) 1 1 1 3 2 _ _ 0 0 w' (HDk.out w' f) HEk (by omega) (by omega) (HMb.out w' (HFk.out w' f)) 51 (by rw [white_valid, size_may.2, far_may.2.2.2]; rfl) (fun _ => by rw [newD_xlen]; omega)
  clear hd3 hf3 hb3 hg3 hv3 HEk
  obtain ⟨b0, b1⟩ := HBX.out _ HF3.out
  obtain ⟨q0, q1, q2, qf⟩ := cell_of_three b0
  obtain ⟨p0, p1, p2, pf⟩ := cell_of_three b1
  clear b0 b1 qf pf
  go_wp2_with fail
  refine (HPn.out _).mono ?_
  rintro e w4 ⟨rfl, hf⟩
  have HG4 : Hid (Fr (fun _ => False) w3 w4) := hf
  clear hf q0 q1 q2 p0 p1 p2
  obtain ⟨b0, b1⟩ := HBX.out _ (HF3.out.trans HG4.out (fun _ _ h => h))
  obtain ⟨q0, q1, q2, qf⟩ := cell_of_three b0
  obtain ⟨p0, p1, p2, pf⟩ := cell_of_three b1
  clear b0 b1 qf pf
  go_wp2_with fail
  refine (HPa.out _ HG4.out).mono ?_
  rintro e w5 ⟨rfl, hf⟩
  have HG5 : Hid (Fr (fun _ => False) w3 w5) := HG4.out.trans hf (fun _ _ h => h)
  clear hf q0 q1 q2 p0 p1 p2
  obtain ⟨b0, b1⟩ := HBX.out _ (HF3.out.trans HG5.out (fun _ _ h => h))
  obtain ⟨q0, q1, q2, qf⟩ := cell_of_three b0
  obtain ⟨p0, p1, p2, pf⟩ := cell_of_three b1
  clear b0 b1 qf pf
  go_wp2_with fail
  refine (HPb.out _ HG5.out).mono ?_
  rintro e w6 ⟨rfl, hf⟩
  have HG6 : Hid (Fr (fun _ => False) w3 w6) := HG5.out.trans hf (fun _ _ h => h)
  clear hf q0 q1 q2 p0 p1 p2
  obtain ⟨b0, b1⟩ := HBX.out _ (HF3.out.trans HG6.out (fun _ _ h => h))
  obtain ⟨q0, q1, q2, qf⟩ := cell_of_three b0
  obtain ⟨p0, p1, p2, pf⟩ := cell_of_three b1
  clear b0 b1 qf pf
  go_wp2_with fail
  refine (HPc.out _ HG6.out).mono ?_
  rintro e w7 ⟨rfl, hf⟩
  have HG7 : Hid (Fr (fun _ => False) w3 w7) := HG6.out.trans hf (fun _ _ h => h)
  clear hf q0 q1 q2 p0 p1 p2
  obtain ⟨b0, b1⟩ := HBX.out _ (HF3.out.trans HG7.out (fun _ _ h => h))
  obtain ⟨q0, q1, q2, qf⟩ := cell_of_three b0
  obtain ⟨p0, p1, p2, pf⟩ := cell_of_three b1
  clear b0 b1 qf pf
  go_wp2_with fail
  refine (HPd.out _ HG7.out).mono ?_
  rintro e w8 ⟨rfl, hf⟩
  have HG8 : Hid (Fr (fun _ => False) w3 w8) := HG7.out.trans hf (fun _ _ h => h)
  clear hf q0 q1 q2 p0 p1 p2
  obtain ⟨b0, b1⟩ := HBX.out _ (HF3.out.trans HG8.out (fun _ _ h => h))
  obtain ⟨q0, q1, q2, qf⟩ := cell_of_three b0
  obtain ⟨p0, p1, p2, pf⟩ := cell_of_three b1
  clear b0 b1 qf pf
  go_wp2_with fail
  refine (HPe.out _ 1 (Or.inl rfl) HG8.out).mono ?_
  rintro e w9 ⟨rfl, hf⟩
  have HG9 : Hid (Fr (fun _ => False) w3 w9) := HG8.out.trans hf (fun _ _ h => h)
  clear hf q0 q1 q2 p0 p1 p2
  obtain ⟨b0, b1⟩ := HBX.out _ (HF3.out.trans HG9.out (fun _ _ h => h))
  obtain ⟨q0, q1, q2, qf⟩ := cell_of_three b0
  obtain ⟨p0, p1, p2, pf⟩ := cell_of_three b1
  clear b0 b1 qf pf
  go_wp2_with fail
  refine (HPe.out _ (-1) (Or.inr rfl) HG9.out).mono ?_
  rintro e w10 ⟨rfl, hf⟩
  have HG10 : Hid (Fr (fun _ => False) w3 w10) := HG9.out.trans hf (fun _ _ h => h)
  clear hf q0 q1 q2 p0 p1 p2
  obtain ⟨b0, b1⟩ := HBX.out _ (HF3.out.trans HG10.out (fun _ _ h => h))
  obtain ⟨q0, q1, q2, qf⟩ := cell_of_three b0
  obtain ⟨p0, p1, p2, pf⟩ := cell_of_three b1
  clear b0 b1 qf pf
  go_wp2_with fail
  refine (HPf.out _ HG10.out).mono ?_
  rintro e w11 ⟨rfl, hf⟩
  have HG11 : Hid (Fr (fun k => k = bc ∨ k = gc ∨ k = gb) w3 w11) := hf
  clear hf q0 q1 q2 p0 p1 p2
  obtain ⟨b0, b1⟩ := HBX.out _ (HFk.out _ HG11.out)
  obtain ⟨q0, q1, q2, qf⟩ := cell_of_three b0
  obtain ⟨p0, p1, p2, pf⟩ := cell_of_three b1
  clear b0 b1 qf pf
  go_wp2_with fail
  refine (HGn.out _).mono ?_
  rintro e w12 ⟨rfl, hf⟩
  have HG12 : Hid (Fr (fun k => k = bc ∨ k = gc ∨ k = gb) w3 w12) := HG11.out.trans hf (fun _ _ h => h.elim)
  clear hf q0 q1 q2 p0 p1 p2
  obtain ⟨b0, b1⟩ := HBX.out _ (HFk.out _ HG12.out)
  obtain ⟨q0, q1, q2, qf⟩ := cell_of_three b0
  obtain ⟨p0, p1, p2, pf⟩ := cell_of_three b1
  clear b0 b1 qf pf
  go_wp2_with fail
  refine (HGa.out _ HG12.out).mono ?_
  rintro e w13 ⟨rfl, hf⟩
  have HG13 : Hid (Fr (fun k => k = bc ∨ k = gc ∨ k = gb) w3 w13) := HG12.out.trans hf (fun _ _ h => h.elim)
  clear hf q0 q1 q2 p0 p1 p2
  obtain ⟨b0, b1⟩ := HBX.out _ (HFk.out _ HG13.out)
  obtain ⟨q0, q1, q2, qf⟩ := cell_of_three b0
  obtain ⟨p0, p1, p2, pf⟩ := cell_of_three b1
  clear b0 b1 qf pf
  go_wp2_with fail
  refine (HGb.out _ HG13.out).mono ?_
  rintro e w14 ⟨rfl, hf⟩
  have HG14 : Hid (Fr (fun k => k = bc ∨ k = gc ∨ k = gb) w3 (w14.alloc (.cells #[.int .i64 0, .int .i64 0, .slice none 0 0] 24))) := (HG13.out.trans hf (fun _ _ h => h.elim)).alloc _
  clear hf q0 q1 q2 p0 p1 p2
  obtain ⟨b0, b1⟩ := HBX.out _ (HFk.out _ HG14.out)
  obtain ⟨q0, q1, q2, qf⟩ := cell_of_three b0
  obtain ⟨p0, p1, p2, pf⟩ := cell_of_three b1
  clear b0 b1 qf pf
  go_wp2_with fail
  refine (HGc.out _ HG14.out).mono ?_
  rintro e w15 ⟨rfl, hf⟩
  have HG15 : Hid (Fr (fun k => k = bc ∨ k = gc ∨ k = gb) w3 (w15.alloc (.cells #[.int .i64 0, .int .i64 0, .slice none 0 0] 24))) := (HG14.out.trans hf (fun _ _ h => h.elim)).alloc _
  clear hf q0 q1 q2 p0 p1 p2
  obtain ⟨b0, b1⟩ := HBX.out _ (HFk.out _ HG15.out)
  obtain ⟨q0, q1, q2, qf⟩ := cell_of_three b0
  obtain ⟨p0, p1, p2, pf⟩ := cell_of_three b1
  clear b0 b1 qf pf
  go_wp2_with fail
  refine (HGd.out _ HG15.out).mono ?_
  rintro e w16 ⟨rfl, hf⟩
  have HG16 : Hid (Fr (fun k => k = bc ∨ k = gc ∨ k = gb) w3 (w16.alloc (.cells #[.int .i64 0, .int .i64 0, .slice none 0 0] 24))) := (HG15.out.trans hf (fun _ _ h => h.elim)).alloc _
  clear hf q0 q1 q2 p0 p1 p2
  obtain ⟨b0, b1⟩ := HBX.out _ (HFk.out _ HG16.out)
  obtain ⟨q0, q1, q2, qf⟩ := cell_of_three b0
  obtain ⟨p0, p1, p2, pf⟩ := cell_of_three b1
  clear b0 b1 qf pf
  go_wp2_with fail
  refine (wakes8 _).mono ?_
  rintro e wz ⟨rfl, hfz⟩
  have HZ : Hid (Fr (fun _ => False) w wz) := (HF0.out.trans (HFk.out _ HG16.out) (fun _ _ h => h)).trans hfz (fun _ _ h => h)
  clear hfz q0 q1 q2 p0 p1 p2
  go_wp2_with fail
  go_ret
  exact ⟨rfl, HZ.out⟩

end Go.Proofs.Ytmfpoabhmpljgab
