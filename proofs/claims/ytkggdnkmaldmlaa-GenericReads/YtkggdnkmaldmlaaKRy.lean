/- The document's own Decode, whatever it is given. -/
import Derived.Test.YtkggdnkmaldmlaaKDx
import Derived.Test.YtkggdnkmaldmlaaK42
import Derived.Test.YtkggdnkmaldmlaaK44
namespace Go.Proofs.Ytkggdnkmaldmlaa
open Go.RowKit

theorem Fr.slot {w0 w : World} {s i : Nat} {u : Value} (h : Fr (fun k => k = s) w0 w) : Fr (fun k => k = s) w0 (w.setCell ⟨s, i, none⟩ u) := h.setCell (p := ⟨s, i, none⟩) (fun _ => rfl) u

set_option maxRecDepth 100000 in
set_option maxHeartbeats 4000000 in
theorem rgdecode_bad (v : Value) (x y ti : Int) (skip : Bool) (w : World) (hv : ∃ a n c, v = .slice a n c) (hx : -9223372036854775808 ≤ x ∧ x ≤ 9223372036854775807) (hy : -9223372036854775808 ≤ y ∧ y ≤ 9223372036854775807) (he : decE x y ti ≠ 0) :
    Calls Try.prog 19 #[v, .int .i64 x, .int .i64 y, .int .i64 ti, .bool skip] w fun e w' => e = .returned (.tuple #[.agg #[.int .i64 0, .int .i64 0, .slice none 0 0], .int .i64 (decE x y ti)]) ∧ Fr (fun _ => False) w w' := by
  have HM6 : Hid (∀ w', Calls Try.prog 23 #[.int .i64 ti] w' fun e w'' => e = .returned (.bool (decide (0 ≤ ti ∧ ti ≤ 3))) ∧ w'' = w') := fun w' => may6_any ti w' _ rfl
  have HSz : Hid (∀ w', Calls Try.prog 16 #[.int .i64 x, .int .i64 y] w' fun e w'' => e = .returned (.bool (sizeOK x y)) ∧ w'' = w') := fun w' => zSize_any x y w' hx hy
  obtain ⟨va, vn, vc, rfl⟩ := hv
  have HA : Hid (Fr (fun _ => False) w (w.alloc (.cells #[.int .i64 0, .int .i64 0, .slice none 0 0] 26))) := (Fr.refl _ _).alloc _
  have HBX : Hid ((w.alloc (.cells #[.int .i64 0, .int .i64 0, .slice none 0 0] 26)).heap[w.heap.size]? = some (.cells #[.int .i64 0, .int .i64 0, .slice none 0 0] 26 (0, 0))) := heap_alloc_new w _
  clear hx hy
  revert he
  unfold decE
  by_cases ht : ti < 0 ∨ 4 ≤ ti
  · rw [if_pos ht]
    intro _
    rw [decide_eq_false (show ¬ (0 ≤ ti ∧ ti ≤ 3) by omega)] at HM6
    clear ht
    go_enter Try.func19, Try.ntmps19
    go_wp2_with fail
    generalize (w.alloc (.cells #[.int .i64 0, .int .i64 0, .slice none 0 0] 26)) = wA at *
    refine (HM6.out _).mono ?_
    rintro e w1 ⟨rfl, hw1⟩
    obtain rfl := hw1.symm
    have hb9 := HBX.out
    have hset := set3_cells hb9 (.int .i64 0) (.int .i64 0) (.slice none 0 0)
    have hf9 : Fr (fun k => k = w.heap.size) wA (((wA.setCell ⟨w.heap.size, 0, none⟩ (.int .i64 0)).setCell ⟨w.heap.size, 1, none⟩ (.int .i64 0)).setCell ⟨w.heap.size, 2, none⟩ (.slice none 0 0)) := (((Fr.refl (fun k => k = w.heap.size) wA).setCell (p := ⟨w.heap.size, 0, none⟩) (fun _ => rfl) _).setCell (p := ⟨w.heap.size, 1, none⟩) (fun _ => rfl) _).setCell (p := ⟨w.heap.size, 2, none⟩) (fun _ => rfl) _
    obtain ⟨w9, hw9⟩ : ∃ w9, w9 = (((wA.setCell ⟨w.heap.size, 0, none⟩ (.int .i64 0)).setCell ⟨w.heap.size, 1, none⟩ (.int .i64 0)).setCell ⟨w.heap.size, 2, none⟩ (.slice none 0 0)) := ⟨_, rfl⟩
    rw [← hw9] at hset hf9
    obtain ⟨x0, x1, x2, xf⟩ := cell_of_three hset
    have HW9 := (show Hid (w9 = (((wA.setCell ⟨w.heap.size, 0, none⟩ (.int .i64 0)).setCell ⟨w.heap.size, 1, none⟩ (.int .i64 0)).setCell ⟨w.heap.size, 2, none⟩ (.slice none 0 0))) from hw9)
    have HE : Hid (Fr (fun _ => False) w w9) := (HA.out).trans hf9 (fun i hi e => by omega)
    obtain ⟨u0, u1, u2, uf⟩ := cell_of_three hb9
    clear hset hf9 xf hb9 hw9
    go_wp2_with fail
    rw [← HW9.out]
    refine bodyPost_ret (v := .tuple #[.agg #[.int .i64 0, .int .i64 0, .slice none 0 0], .int .i64 60]) (by simp [results, Try.results19, go_sem, x0, x1, x2]) rfl ?_
    exact ⟨rfl, HE.out⟩
  · rw [if_neg ht]
    cases hs : sizeOK x y
    · intro _
      rw [hs] at HSz
      rw [decide_eq_true (show 0 ≤ ti ∧ ti ≤ 3 by omega)] at HM6
      clear ht hs
      go_enter Try.func19, Try.ntmps19
      go_wp2_with fail
      generalize (w.alloc (.cells #[.int .i64 0, .int .i64 0, .slice none 0 0] 26)) = wA at *
      refine (HM6.out _).mono ?_
      rintro e w1 ⟨rfl, hw1⟩
      obtain rfl := hw1.symm
      go_wp2_with fail
      refine (HSz.out _).mono ?_
      rintro e w2 ⟨rfl, hw2⟩
      obtain rfl := hw2.symm
      have hb9 := HBX.out
      have hset := set3_cells hb9 (.int .i64 0) (.int .i64 0) (.slice none 0 0)
      have hf9 : Fr (fun k => k = w.heap.size) wA (((wA.setCell ⟨w.heap.size, 0, none⟩ (.int .i64 0)).setCell ⟨w.heap.size, 1, none⟩ (.int .i64 0)).setCell ⟨w.heap.size, 2, none⟩ (.slice none 0 0)) := (((Fr.refl (fun k => k = w.heap.size) wA).setCell (p := ⟨w.heap.size, 0, none⟩) (fun _ => rfl) _).setCell (p := ⟨w.heap.size, 1, none⟩) (fun _ => rfl) _).setCell (p := ⟨w.heap.size, 2, none⟩) (fun _ => rfl) _
      obtain ⟨w9, hw9⟩ : ∃ w9, w9 = (((wA.setCell ⟨w.heap.size, 0, none⟩ (.int .i64 0)).setCell ⟨w.heap.size, 1, none⟩ (.int .i64 0)).setCell ⟨w.heap.size, 2, none⟩ (.slice none 0 0)) := ⟨_, rfl⟩
      rw [← hw9] at hset hf9
      obtain ⟨x0, x1, x2, xf⟩ := cell_of_three hset
      have HW9 := (show Hid (w9 = (((wA.setCell ⟨w.heap.size, 0, none⟩ (.int .i64 0)).setCell ⟨w.heap.size, 1, none⟩ (.int .i64 0)).setCell ⟨w.heap.size, 2, none⟩ (.slice none 0 0))) from hw9)
      have HE : Hid (Fr (fun _ => False) w w9) := (HA.out).trans hf9 (fun i hi e => by omega)
      obtain ⟨u0, u1, u2, uf⟩ := cell_of_three hb9
      clear hset hf9 xf hb9 hw9
      go_wp2_with fail
      rw [← HW9.out]
      refine bodyPost_ret (v := .tuple #[.agg #[.int .i64 0, .int .i64 0, .slice none 0 0], .int .i64 63]) (by simp [results, Try.results19, go_sem, x0, x1, x2]) rfl ?_
      exact ⟨rfl, HE.out⟩
    · intro h
      exact absurd rfl h

set_option maxRecDepth 100000 in
set_option maxHeartbeats 8000000 in
theorem rgdecode_ok (v : Value) (B : List Nat) (W H t : Nat) (skip : Bool) (w : World) (hv : SeenAt w v B) (hnil : v = .slice none 0 0 ∨ ∃ a n c, v = .slice (some a) n c) (hB : ∀ y ∈ B, y < 256) (h1 : 1 ≤ W) (h2 : 1 ≤ H) (h3 : W * H ≤ 1048576) (ht : t < 4) (hm : H * (W + 1) ≤ 16777216) :
    Calls Try.prog 19 #[v, .int .i64 W, .int .i64 H, .int .i64 t, .bool skip] w fun e w' => ∃ g cap, e = .returned (.tuple #[.agg #[.int .i64 W, .int .i64 H, .slice (some ⟨g, 0, none⟩) (H * stride W) cap], .int .i64 0]) ∧ RowAt w' g cap W H (gotW B 0 t W skip H (newD B (sizeT t + 1))).2 ∧ w.heap.size ≤ g ∧ Fr (fun _ => False) w w' := by
  obtain ⟨f1, f2, f3⟩ := size_facts h1 h2 h3
  have hZ := sizeT_le t ht
  have HM6 : Hid (∀ w', Calls Try.prog 23 #[.int .i64 t] w' fun e w'' => e = .returned (.bool true) ∧ w'' = w') := fun w' => by
    have := may6_any t w' _ rfl
    rwa [decide_eq_true (show 0 ≤ (t : Int) ∧ (t : Int) ≤ 3 by omega)] at this
  have HSz : Hid (∀ w', Calls Try.prog 16 #[.int .i64 W, .int .i64 H] w' fun e w'' => e = .returned (.bool true) ∧ w'' = w') := fun w' => by
    have := zSize_any W H w' (by omega) (by omega)
    rwa [show sizeOK (W : Int) (H : Int) = true from decide_eq_true ⟨by omega, by omega, by rw [← Int.natCast_mul]; omega⟩] at this
  have HNe : Hid (∀ w', Calls Try.prog 40 #[.int .i64 t] w' fun e w'' => e = .returned (.int .i64 ((sizeT t + 1 : Nat) : Int)) ∧ Fr (fun _ => False) w' w'') := fun w' => need_any t ht w'
  have HNw : Hid (∀ w', Fr (fun _ => False) w w' → Calls Try.prog 42 #[v, .int .i64 ((sizeT t + 1 : Nat) : Int)] w' fun e w'' => ∃ br gt ct gs gz vb, e = .returned (.pointer (some ⟨br, 0, none⟩)) ∧ RdAt w'' br gt ct gs gz (sizeT t + 1) vb B (newD B (sizeT t + 1)) ∧ Fr (fun _ => False) w' w'' ∧ w'.heap.size ≤ br ∧ w'.heap.size ≤ gt ∧ w'.heap.size ≤ gs ∧ w'.heap.size ≤ gz) := fun w' f => rnewD_all w' v B (sizeT t + 1) (by omega) (by omega) (hv.kept f (fun _ _ h => h)) hnil hB
  have HGt : Hid (∀ (w' : World) (br gt ct gs gz : Nat) (vb : Value), RdAt w' br gt ct gs gz (sizeT t + 1) vb B (newD B (sizeT t + 1)) → Calls Try.prog 41 #[.pointer (some ⟨br, 0, none⟩), .int .i64 0, .int .i64 W, .int .i64 H, .int .i64 t, .bool skip] w' fun e w'' => ∃ g cap, e = .returned (.tuple #[.agg #[.int .i64 W, .int .i64 H, .slice (some ⟨g, 0, none⟩) (H * stride W) cap], .int .i64 0]) ∧ RowAt w'' g cap W H (gotW B 0 t W skip H (newD B (sizeT t + 1))).2 ∧ w'.heap.size ≤ g ∧ Fr (fun k => k = br ∨ k = gs ∨ k = gz) w' w'') := fun w' br gt ct gs gz vb hd =>
    rgget_ok br gt ct gs gz (sizeT t + 1) vb B (newD B (sizeT t + 1)) 0 t W H skip w' hd (newD_ok (by omega) (by omega) hB) h1 h2 h3 ht (by omega) (by show 0 + _ ≤ _; omega)
  obtain ⟨n0, HN0⟩ : ∃ n0, Hid (n0 = H * stride W) := ⟨_, rfl⟩
  rw [← HN0.out] at HGt ⊢
  obtain ⟨Q, HQQ⟩ : ∃ Q, Hid (Q = gotW B 0 t W skip H (newD B (sizeT t + 1))) := ⟨_, rfl⟩
  rw [← HQQ.out] at HGt ⊢
  obtain ⟨ao, cv, hvv, -, -⟩ := hv
  generalize B.length = nB at *
  subst hvv
  clear h1 h2 h3 hB hnil f3 ht hm
  obtain ⟨N0, HNN⟩ : ∃ N0, Hid (N0 = newD B (sizeT t + 1)) := ⟨_, rfl⟩
  rw [← HNN.out] at HNw HGt
  generalize ((sizeT t + 1 : Nat) : Int) = C1 at *
  generalize sizeT t + 1 = C at *
  have HA : Hid (Fr (fun _ => False) w (w.alloc (.cells #[.int .i64 0, .int .i64 0, .slice none 0 0] 26))) := (Fr.refl _ _).alloc _
  have HBX : Hid (∀ w', Fr (fun _ => False) (w.alloc (.cells #[.int .i64 0, .int .i64 0, .slice none 0 0] 26)) w' → w'.heap[w.heap.size]? = some (.cells #[.int .i64 0, .int .i64 0, .slice none 0 0] 26 (0, 0))) := fun w' f => blkOld f (heap_alloc_new w _)
  go_enter Try.func19, Try.ntmps19
  go_wp2_with fail
  generalize (w.alloc (.cells #[.int .i64 0, .int .i64 0, .slice none 0 0] 26)) = wA at *
  have hwA : w.heap.size < wA.heap.size := lt_of_block (HBX.out _ (Fr.refl _ _))
  refine (HM6.out _).mono ?_
  rintro e w1 ⟨rfl, hw1⟩
  obtain rfl := hw1.symm
  go_wp2_with fail
  refine (HSz.out _).mono ?_
  rintro e w1 ⟨rfl, hw1⟩
  obtain rfl := hw1.symm
  clear hw1
  have HNex : Hid (∀ w', Fr (fun k => k = w.heap.size) wA w' → w'.heap[w.heap.size]? = some (.cells #[.int .i64 0, .int .i64 0, .slice none 0 0] 26 (0, 0)) → Calls Try.prog 40 #[.int .i64 t] w' fun e w'' => e = .returned (.int .i64 C1) ∧ Fr (fun k => k = w.heap.size) wA w'' ∧ w''.heap[w.heap.size]? = some (.cells #[.int .i64 0, .int .i64 0, .slice none 0 0] 26 (0, 0))) := fun w' f hb => by
    refine (HNe.out w').mono ?_
    rintro e w'' ⟨rfl, hf⟩
    exact ⟨rfl, f.trans (hf.mono (fun _ _ h => h.elim)) (fun _ _ h => h), blkOld hf hb⟩
  have HNx : Hid (∀ w', Fr (fun k => k = w.heap.size) wA w' → w'.heap[w.heap.size]? = some (.cells #[.int .i64 0, .int .i64 0, .slice none 0 0] 26 (0, 0)) → Calls Try.prog 42 #[.slice ao nB cv, .int .i64 C1] w' fun e w'' => ∃ br gt ct gs gz vb, e = .returned (.pointer (some ⟨br, 0, none⟩)) ∧ RdAt w'' br gt ct gs gz C vb B N0 ∧ Fr (fun k => k = w.heap.size) wA w'' ∧ wA.heap.size ≤ br ∧ wA.heap.size ≤ gs ∧ wA.heap.size ≤ gz ∧ w''.heap[w.heap.size]? = some (.cells #[.int .i64 0, .int .i64 0, .slice none 0 0] 26 (0, 0))) := fun w' f hb => by
    refine (HNw.out w' (HA.out.trans f (fun i hi e => by omega))).mono ?_
    rintro e w'' ⟨br, gt, ct, gs, gz, vb, rfl, hd, hf, l1, l2, l3, l4⟩
    have := f.size
    exact ⟨br, gt, ct, gs, gz, vb, rfl, hd, f.trans (hf.mono (fun _ _ h => h.elim)) (fun _ _ h => h), by omega, by omega, by omega, blkOld hf hb⟩
  have HGx : Hid (∀ (w' : World) (br gt ct gs gz : Nat) (vb : Value), Fr (fun k => k = w.heap.size) wA w' → wA.heap.size ≤ br → wA.heap.size ≤ gs → wA.heap.size ≤ gz → RdAt w' br gt ct gs gz C vb B N0 → w'.heap[w.heap.size]? = some (.cells #[.int .i64 0, .int .i64 0, .slice none 0 0] 26 (0, 0)) → Calls Try.prog 41 #[.pointer (some ⟨br, 0, none⟩), .int .i64 0, .int .i64 W, .int .i64 H, .int .i64 t, .bool skip] w' fun e w'' => ∃ g cap, e = .returned (.tuple #[.agg #[.int .i64 W, .int .i64 H, .slice (some ⟨g, 0, none⟩) n0 cap], .int .i64 0]) ∧ RowAt w'' g cap W H Q.2 ∧ wA.heap.size ≤ g ∧ Fr (fun k => k = w.heap.size) wA w'' ∧ w''.heap[w.heap.size]? = some (.cells #[.int .i64 0, .int .i64 0, .slice none 0 0] 26 (0, 0))) := fun w' br gt ct gs gz vb f l1 l2 l3 hd hb => by
    refine (HGt.out w' br gt ct gs gz vb hd).mono ?_
    rintro e w'' ⟨g, cap, rfl, hrow, hg, hf⟩
    have hsz := f.size
    refine ⟨g, cap, rfl, hrow, by omega, f.trans hf (fun i hi e => by omega), ?_⟩
    rw [hf.block _ (lt_of_block hb) (by omega)]
    exact hb
  have HB1 : Hid (wA.heap[w.heap.size]? = some (.cells #[.int .i64 0, .int .i64 0, .slice none 0 0] 26 (0, 0))) := HBX.out _ (Fr.refl _ _)
  have hb0 := HB1.out
  go_wp2_with fail
  refine (HNex.out _ (Fr.refl _ _) (by exact HB1.out)).mono ?_
  rintro e w2 ⟨rfl, hf2, hb2⟩
  clear hb0
  have HF2 : Hid (Fr (fun k => k = w.heap.size) wA w2 ∧ w2.heap[w.heap.size]? = some (.cells #[.int .i64 0, .int .i64 0, .slice none 0 0] 26 (0, 0))) := ⟨hf2, hb2⟩
  clear hf2 hb2
  go_wp2_with fail
  refine (HNx.out _ HF2.out.1 HF2.out.2).mono ?_
  rintro e w3 ⟨br, gt, ct, gs, gz, vb, rfl, hd3, hf3, l1, l2, l3, hb3⟩
  have HF3 : Hid (RdAt w3 br gt ct gs gz C vb B N0 ∧ Fr (fun k => k = w.heap.size) wA w3 ∧ wA.heap.size ≤ br ∧ wA.heap.size ≤ gs ∧ wA.heap.size ≤ gz ∧ w3.heap[w.heap.size]? = some (.cells #[.int .i64 0, .int .i64 0, .slice none 0 0] 26 (0, 0))) := ⟨hd3, hf3, l1, l2, l3, hb3⟩
  clear hd3 hf3 l1 l2 l3 hb3
  go_wp2_with fail
  refine (HGx.out _ br gt ct gs gz vb HF3.out.2.1 HF3.out.2.2.1 HF3.out.2.2.2.1 HF3.out.2.2.2.2.1 HF3.out.1 HF3.out.2.2.2.2.2).mono ?_
  rintro e w4 ⟨g, cap, rfl, hr4, hg4, hf4, hb4⟩
  have hset := set3_cells hb4 (.int .i64 W) (.int .i64 H) (.slice (some ⟨g, 0, none⟩) n0 cap)
  have hf9 : Fr (fun k => k = w.heap.size) w4 (((w4.setCell ⟨w.heap.size, 0, none⟩ (.int .i64 W)).setCell ⟨w.heap.size, 1, none⟩ (.int .i64 H)).setCell ⟨w.heap.size, 2, none⟩ (.slice (some ⟨g, 0, none⟩) n0 cap)) := (((Fr.refl (fun k => k = w.heap.size) w4).setCell (p := ⟨w.heap.size, 0, none⟩) (fun _ => rfl) _).setCell (p := ⟨w.heap.size, 1, none⟩) (fun _ => rfl) _).setCell (p := ⟨w.heap.size, 2, none⟩) (fun _ => rfl) _
  obtain ⟨w9, hw9⟩ : ∃ w9, w9 = (((w4.setCell ⟨w.heap.size, 0, none⟩ (.int .i64 W)).setCell ⟨w.heap.size, 1, none⟩ (.int .i64 H)).setCell ⟨w.heap.size, 2, none⟩ (.slice (some ⟨g, 0, none⟩) n0 cap)) := ⟨_, rfl⟩
  rw [← hw9] at hset hf9
  obtain ⟨x0, x1, x2, xf⟩ := cell_of_three hset
  have HW9 := (show Hid (w9 = (((w4.setCell ⟨w.heap.size, 0, none⟩ (.int .i64 W)).setCell ⟨w.heap.size, 1, none⟩ (.int .i64 H)).setCell ⟨w.heap.size, 2, none⟩ (.slice (some ⟨g, 0, none⟩) n0 cap))) from hw9)
  have HE : Hid (RowAt w9 g cap W H Q.2 ∧ w.heap.size ≤ g ∧ Fr (fun _ => False) w w9) := ⟨hr4.kept hf9 (by omega), by omega, HA.out.trans (hf4.trans hf9 (fun _ _ h => h)) (fun i hi e => by omega)⟩
  obtain ⟨u0, u1, u2, uf⟩ := cell_of_three hb4
  clear hr4 hg4 hf4 hset hf9 xf hb4 hw9
  go_wp2_with fail
  rw [← HW9.out]
  refine bodyPost_ret (v := .tuple #[.agg #[.int .i64 W, .int .i64 H, .slice (some ⟨g, 0, none⟩) n0 cap], .int .i64 0]) (by simp [results, Try.results19, go_sem, x0, x1, x2]) rfl ?_
  exact ⟨g, cap, rfl, HE.out⟩

theorem rgdecode_all (v : Value) (B : List Nat) (x y ti : Int) (sk : Bool) (w : World) (hv : SeenAt w v B) (hnil : v = .slice none 0 0 ∨ ∃ a n c, v = .slice (some a) n c) (hB : ∀ y ∈ B, y < 256) (hx : -9223372036854775808 ≤ x ∧ x ≤ 9223372036854775807) (hy : -9223372036854775808 ≤ y ∧ y ≤ 9223372036854775807) (h6 : sizeOK x y = true → x * y ≤ 6000) :
    Calls Try.prog 19 #[v, .int .i64 x, .int .i64 y, .int .i64 ti, .bool sk] w fun e w' => ∃ vf, e = .returned (.tuple #[.agg #[.int .i64 (decN x y ti x), .int .i64 (decN x y ti y), vf], .int .i64 (decE x y ti)]) ∧ Seen w' vf (rdL B x y ti sk) ∧ (∀ k, vf.ownBlock = some k → w.heap.size ≤ k) ∧ Fr (fun _ => False) w w' := by
  by_cases he : decE x y ti ≠ 0
  · refine (rgdecode_bad v x y ti sk w (by obtain ⟨a, c, e, _⟩ := hv; exact ⟨a, _, c, e⟩) hx hy he).mono ?_
    rintro e w' ⟨rfl, hf⟩
    unfold decN rdL
    rw [if_neg he, if_neg he, if_neg he]
    exact ⟨_, rfl, seen_none w', fun k hk => by simp [Value.ownBlock] at hk, hf⟩
  · have he' : decE x y ti = 0 := by omega
    obtain ⟨ht, hs⟩ := decE_ok he'
    unfold decN rdL
    rw [if_pos he', if_pos he', if_pos he', he']
    obtain ⟨t, rfl⟩ : ∃ t : Nat, ti = t := ⟨ti.toNat, by omega⟩
    have h6' := h6 hs
    unfold sizeOK at hs
    obtain ⟨s1, s2, s3⟩ := of_decide_eq_true hs
    obtain ⟨W, rfl⟩ : ∃ W : Nat, x = W := ⟨x.toNat, by omega⟩
    obtain ⟨H, rfl⟩ : ∃ H : Nat, y = H := ⟨y.toNat, by omega⟩
    rw [← Int.natCast_mul] at s3 h6'
    have hmm := most_rows (W := W) (H := H) (by omega) (by omega)
    refine (rgdecode_ok v B W H t sk w hv hnil hB (by omega) (by omega) (by omega) (by omega) (by omega)).mono ?_
    rintro e w' ⟨g, cap, rfl, hrow, hg, hf⟩
    exact ⟨_, rfl, hrow.seen (size_facts (by omega) (by omega) (by omega)).2.2, fun k hk => by simp [Value.ownBlock] at hk; omega, hf⟩

end Go.Proofs.Ytkggdnkmaldmlaa
