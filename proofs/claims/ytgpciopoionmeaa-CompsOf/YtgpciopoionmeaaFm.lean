/- Package bitmap: what the other texts lack (Bxg, Bxh). -/
import Derived.Test.YtgpciopoionmeaaBm
import Derived.Test.YtgpciopoionmeaaRefPut
import Derived.Test.YtgpciopoionmeaaFp
namespace Go.Proofs.Ytgpciopoionmeaa
open Go.RowKit


theorem valid_parts {x y : Int} {l : List Nat} (h : validB x y l = true) : ∃ W H : Nat, x = W ∧ y = H ∧ 1 ≤ W ∧ 1 ≤ H ∧ W * H ≤ 1048576 ∧ l.length = H * stride W ∧ ∀ j, j < H → rowOK W l j := by
  unfold validB at h
  simp only [Bool.and_eq_true, decide_eq_true_eq] at h
  obtain ⟨⟨hs, hl⟩, hr⟩ := h
  unfold sizeOK at hs
  obtain ⟨h1, h2, h3⟩ := of_decide_eq_true hs
  obtain ⟨W, rfl⟩ : ∃ W : Nat, x = W := ⟨x.toNat, by omega⟩
  obtain ⟨H, rfl⟩ : ∃ H : Nat, y = H := ⟨y.toNat, by omega⟩
  have h3' : W * H ≤ 1048576 := by have := h3; rw [← Int.natCast_mul] at this; omega
  exact ⟨W, H, rfl, rfl, by omega, by omega, h3', by simpa using hl, by simpa using hr⟩

set_option maxRecDepth 100000 in
set_option maxHeartbeats 2000000 in
theorem from_no (x y : Int) (v : Value) (l : List Nat) (w : World) (hx : -9223372036854775808 ≤ x ∧ x ≤ 9223372036854775807) (hy : -9223372036854775808 ≤ y ∧ y ≤ 9223372036854775807) (hv : Seen w v l) (hlt : ∀ j : Nat, l[j]?.getD 0 < 18446744073709551616) (hb : validB x y l = false) :
    Calls Try.prog 26 #[.agg #[.int .i64 x, .int .i64 y, v]] w fun e w' => e = .returned (.tuple #[.pointer none, .int .i64 21]) ∧ Fr (fun _ => False) w w' := by
  have HC : Hid (∀ w', Fr (fun _ => False) w w' → Calls Try.prog 45 #[.agg #[.int .i64 x, .int .i64 y, v]] w' fun e w'' => e = .returned (.bool false) ∧ Fr (fun _ => False) w' w'') := fun w' hf => by
    have := check_any x y v l w' hx hy (hv.kept hf) hlt
    rw [hb] at this
    exact this
  obtain ⟨ao, cap, rfl, hll, _⟩ := hv
  generalize l.length = n at *
  go_enter Try.func26, Try.ntmps26
  go_wp2_with fail
  refine (HC.out _ ((Fr.refl _ _).alloc _)).mono ?_
  rintro e w1 ⟨rfl, hf1⟩
  have HF : Hid (Fr (fun _ => False) w w1) := ((Fr.refl _ _).alloc _).trans hf1 (fun _ _ hh => hh)
  clear hf1
  go_wp2_with fail
  go_ret2
  exact ⟨rfl, HF.out⟩

set_option maxRecDepth 100000 in
set_option maxHeartbeats 2000000 in
theorem from_yes (W H : Nat) (v : Value) (l : List Nat) (w : World) (h1 : 1 ≤ W) (h2 : 1 ≤ H) (h3 : W * H ≤ 1048576) (hv : Seen w v l) (hlt : ∀ j : Nat, l[j]?.getD 0 < 18446744073709551616) (hl : l.length = H * stride W) (hr : ∀ j, j < H → rowOK W l j) :
    Calls Try.prog 26 #[.agg #[.int .i64 W, .int .i64 H, v]] w fun e w' => ∃ b g cap, e = .returned (.tuple #[.pointer (some ⟨b, 0, none⟩), .int .i64 0]) ∧ NewMap w w' b g cap W H (pixOf W l) := by
  obtain ⟨f1, f2, f3⟩ := size_facts h1 h2 h3
  have hs : sizeOK (W : Int) (H : Int) = true := by
    unfold sizeOK
    refine decide_eq_true ⟨by omega, by omega, ?_⟩
    rw [← Int.natCast_mul]; omega
  have hvb : validB (W : Int) (H : Int) l = true := by
    rw [validB_nat W H l hs, decide_eq_true hl, Bool.true_and]; exact decide_eq_true hr
  have HC : Hid (∀ w', Fr (fun _ => False) w w' → Calls Try.prog 45 #[.agg #[.int .i64 W, .int .i64 H, v]] w' fun e w'' => e = .returned (.bool true) ∧ Fr (fun _ => False) w' w'') := fun w' hf => by
    have := check_any W H v l w' (by omega) (by omega) (hv.kept hf) hlt
    rw [hvb] at this
    exact this
  have HRN : Hid (l = render W H (pixOf W l)) := valid_render W H l h1 hl hr hlt
  have HA : Hid (1 ≤ W ∧ 1 ≤ H ∧ W * H ≤ 1048576) := ⟨h1, h2, h3⟩
  have hS := stride_pos h1
  have hne : l ≠ [] := by
    intro e
    have hpos : 0 < H * stride W := Nat.mul_pos (by omega) hS
    rw [e] at hl
    simp only [List.length_nil] at hl
    omega
  have HSD : Hid (∀ w' : World, Calls Try.prog 46 #[.int .i64 W] w' fun e w'' => e = .returned (.int .i64 (stride W : Nat)) ∧ w'' = w') := fun w' => strideOf_any W w' f1
  obtain ⟨ao, cap, rfl, hll, hcc⟩ := hv
  obtain ⟨b0, off, rfl, hcell⟩ := hcc hne
  have HCL : Hid (∀ w', Fr (fun _ => False) w w' → Calls Try.prog 47 #[.slice (some ⟨b0, off, none⟩) l.length cap] w' fun e w'' => ∃ rv, e = .returned rv ∧ w''.ownsRow w'.heap.size 62 1 rv l.length (wordCells l) ∧ Fr (fun _ => False) w' w'' ∧ rv ≠ .slice none 0 0) := fun w' hf => by
    refine clone_some ⟨b0, off, none⟩ l.length cap l w' rfl (by omega) ?_
    intro j u hu
    rw [wordCells_get] at hu
    by_cases hj : j < l.length
    · rw [List.getElem?_eq_getElem hj] at hu
      simp at hu
      subst hu
      rw [show (⟨b0, off, none⟩ : Addr).add j = ⟨b0, off + j, none⟩ from by unfold Addr.add; split <;> simp_all]
      have h4 := hcell j hj
      rw [hf.cell (seen_lt h4) (fun hh => hh), h4, List.getElem?_eq_getElem hj]
      rfl
    · rw [List.getElem?_eq_none (by omega)] at hu; simp at hu
  have HBX : Hid (∀ w', Fr (fun _ => False) (w.alloc (.cells #[.int .i64 W, .int .i64 H, .slice (some ⟨b0, off, none⟩) l.length cap] 25)) w' → w'.cell? ⟨w.heap.size, 0, none⟩ = some (.int .i64 W) ∧ w'.cell? ⟨w.heap.size, 1, none⟩ = some (.int .i64 H) ∧ w'.cell? ⟨w.heap.size, 2, none⟩ = some (.slice (some ⟨b0, off, none⟩) l.length cap)) := fun w' hf => by
    have hB : w'.heap[w.heap.size]? = some (.cells #[.int .i64 W, .int .i64 H, .slice (some ⟨b0, off, none⟩) l.length cap] 25 (0, 0)) := by
      rw [hf.block _ (by simp) (fun hh => hh)]; exact heap_alloc_new _ _
    obtain ⟨c0, c1, c2, _⟩ := cell_of_three hB
    exact ⟨c0, c1, c2⟩
  clear hcc hcell hvb hs hr hlt
  have HL : Hid (l.length = H * stride W) := hl
  clear hl hne
  generalize hnn : l.length = n at *
  go_enter Try.func26, Try.ntmps26
  go_wp2_with fail
  refine (HC.out _ ((Fr.refl _ _).alloc _)).mono ?_
  rintro e w1 ⟨rfl, hf1⟩
  have HF1 : Hid (Fr (fun _ => False) (w.alloc (.cells #[.int .i64 W, .int .i64 H, .slice (some ⟨b0, off, none⟩) n cap] 25)) w1) := hf1
  clear hf1
  go_wp2_with fail
  go_region_held3 (fun w' => w'.cell? ⟨w.heap.size, 0, none⟩ = some (.int .i64 W) ∧ w'.cell? ⟨w.heap.size, 1, none⟩ = some (.int .i64 H) ∧ w'.cell? ⟨w.heap.size, 2, none⟩ = some (.slice (some ⟨b0, off, none⟩) n cap)) (first | exact HBX.out _ HF1.out.drew | exact HBX.out _ (HF1.out.drew.trans hf4 (fun _ _ hh => hh)) | exact HBX.out _ ((HF1.out.drew.trans hf4 (fun _ _ hh => hh)).alloc _)) (first | (go_at_call 46; refine (HSD.out _).mono ?_; rintro e w3 ⟨rfl, rfl⟩) | (go_at_call 47; refine (HCL.out _ ?_).mono ?_; (exact ((Fr.refl _ _).alloc _).trans HF1.out.drew (fun _ _ hh => hh)); rintro e w4 ⟨rv, rfl, ho, hf4, hnn4⟩; obtain ⟨g2, cap2, hrv, hg2⟩ := row_out ho hnn4; subst hrv))
  have hs1 : w.heap.size + 1 ≤ w1.heap.size := by have := HF1.out.size; simpa using this
  have hs4 : w1.heap.size ≤ w4.heap.size := hf4.size
  have hg2' : w1.heap.size ≤ g2 := hg2
  have HO : Hid ((w4.alloc (.cells #[.int .i64 W, .int .i64 H, .int .i64 (stride W : Nat), .slice (some ⟨g2, 0, none⟩) n cap2] 84)).ownsRow 0 62 1 (.slice (some ⟨g2, 0, none⟩) n cap2) n (wordCells l)) := (ownsRow_base ho (fun _ _ => Nat.zero_le _)).alloc _
  have HFZ : Hid (Fr (fun _ => False) w (w4.alloc (.cells #[.int .i64 W, .int .i64 H, .int .i64 (stride W : Nat), .slice (some ⟨g2, 0, none⟩) n cap2] 84))) := ((((Fr.refl _ _).alloc _).trans HF1.out.drew (fun _ _ hh => hh)).trans hf4 (fun _ _ hh => hh)).alloc _
  have HBK := heap_alloc_new w4 (.cells #[.int .i64 W, .int .i64 H, .int .i64 (stride W : Nat), .slice (some ⟨g2, 0, none⟩) n cap2] 84)
  have HBK2 : Hid ((w4.alloc (.cells #[.int .i64 W, .int .i64 H, .int .i64 (stride W : Nat), .slice (some ⟨g2, 0, none⟩) n cap2] 84)).heap[w4.heap.size]? = some (.cells #[.int .i64 W, .int .i64 H, .int .i64 (stride W : Nat), .slice (some ⟨g2, 0, none⟩) n cap2] 84 (0, 0))) := HBK
  clear ho hf4 hg2 HBK
  go_wp2_with fail
  go_ret2
  refine ⟨w4.heap.size, g2, cap2, rfl, ⟨⟨?_, ?_, HA.out.1, HA.out.2.1, HA.out.2.2⟩, HFZ.out, by omega, by omega⟩⟩
  · rw [← HL.out]; exact HBK2.out
  · rw [← HRN.out, ← HL.out]; exact HO.out



theorem render_ltD (W H : Nat) (P : Nat → Nat → Bool) (j : Nat) : (render W H P)[j]?.getD 0 < 18446744073709551616 := by
  by_cases h : j < H * stride W
  · rw [render_get' P h]; exact wd_lt _ _ _ _
  · rw [List.getElem?_eq_none (by rw [length_render]; omega)]; simp
theorem from_row (W H g cap : Nat) (P : Nat → Nat → Bool) (w : World) (h : RowAt w g cap W H P) (h1 : 1 ≤ W) (h2 : 1 ≤ H) (h3 : W * H ≤ 1048576) :
    Calls Try.prog 26 #[.agg #[.int .i64 W, .int .i64 H, .slice (some ⟨g, 0, none⟩) (H * stride W) cap]] w fun e w' => ∃ b g2 c, e = .returned (.tuple #[.pointer (some ⟨b, 0, none⟩), .int .i64 0]) ∧ NewMap w w' b g2 c W H P := by
  obtain ⟨f1, f2, f3⟩ := size_facts h1 h2 h3
  refine (from_yes W H _ (render W H P) w h1 h2 h3 (h.seen f3) (render_ltD W H P) (length_render W H P) (fun j hj => render_rowOK W H P h1 j hj)).mono ?_
  rintro e w' ⟨b, g2, c, he, hn⟩
  have hr := valid_render W H (render W H P) h1 (length_render W H P) (fun j hj => render_rowOK W H P h1 j hj) (render_ltD W H P)
  exact ⟨b, g2, c, he, ⟨hn.at_.pix (fun x y hx hy => (render_inj hr x y hx hy).symm), hn.fr, hn.nb, hn.ng⟩⟩


end Go.Proofs.Ytgpciopoionmeaa
