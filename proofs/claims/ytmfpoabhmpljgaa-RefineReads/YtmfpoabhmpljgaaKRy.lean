/- The document's own Decode, whatever it is given. -/
import Derived.Test.YtmfpoabhmpljgaaK28
import Derived.Test.YtmfpoabhmpljgaaKRa
import Derived.Test.YtmfpoabhmpljgaaKRdE
import Derived.Test.YtmfpoabhmpljgaaKRt
namespace Go.Proofs.Ytmfpoabhmpljgaa
open Go.RowKit

theorem Fr.slot {w0 w : World} {s i : Nat} {u : Value} (h : Fr (fun k => k = s) w0 w) : Fr (fun k => k = s) w0 (w.setCell ⟨s, i, none⟩ u) := h.setCell (p := ⟨s, i, none⟩) (fun _ => rfl) u

set_option maxRecDepth 100000 in
set_option maxHeartbeats 4000000 in
theorem rrdecode_bad (v : Value) (B : List Nat) (x y rx ry : Int) (rv : Value) (rl : List Nat) (dx dy : Int) (w : World) (hv : SeenAt w v B) (hx : -9223372036854775808 ≤ x ∧ x ≤ 9223372036854775807) (hy : -9223372036854775808 ≤ y ∧ y ≤ 9223372036854775807) (hr : MpS w rx ry rv rl) (he : decE x y rx ry rl dx dy ≠ 0) :
    Calls Try.prog 19 #[v, .int .i64 x, .int .i64 y, .agg #[.int .i64 rx, .int .i64 ry, rv], .int .i64 dx, .int .i64 dy] w fun e w' => e = .returned (.tuple #[.agg #[.int .i64 0, .int .i64 0, .slice none 0 0], .int .i64 (decE x y rx ry rl dx dy)]) ∧ Fr (fun _ => False) w w' := by
  have HCr : Hid (∀ w', Fr (fun _ => False) w w' → Calls Try.prog 22 #[.agg #[.int .i64 rx, .int .i64 ry, rv]] w' fun e w'' => e = .returned (.bool (validB rx ry rl)) ∧ Fr (fun _ => False) w' w'') := fun w' f => (hr.kept f).may
  have HSz : Hid (∀ w', Calls Try.prog 16 #[.int .i64 x, .int .i64 y] w' fun e w'' => e = .returned (.bool (sizeOK x y)) ∧ w'' = w') := fun w' => zSize_any x y w' hx hy
  have HMy : Hid (∀ w', Calls Try.prog 26 #[.int .i64 dx, .int .i64 dy] w' fun e w'' => e = .returned (.bool (mayS dx dy)) ∧ w'' = w') := fun w' => rmay_any dx dy w'
  obtain ⟨ao, cv, rfl, -, -⟩ := hv
  obtain ⟨ar, cr, hvr, -, -⟩ := hr.hv
  generalize B.length = n0 at *
  generalize rl.length = n1 at *
  subst hvr
  revert he
  unfold decE
  generalize validB rx ry rl = b1 at *
  generalize sizeOK x y = b2 at *
  generalize mayS dx dy = b3 at *
  intro he
  clear hr hx hy
  have HA : Hid (Fr (fun _ => False) w ((w.alloc (.cells #[.int .i64 rx, .int .i64 ry, .slice ar n1 cr] 26)).alloc (.cells #[.int .i64 0, .int .i64 0, .slice none 0 0] 26))) := ((Fr.refl _ _).alloc _).alloc _
  have HBX : Hid (∀ w', Fr (fun _ => False) ((w.alloc (.cells #[.int .i64 rx, .int .i64 ry, .slice ar n1 cr] 26)).alloc (.cells #[.int .i64 0, .int .i64 0, .slice none 0 0] 26)) w' → w'.heap[w.heap.size]? = some (.cells #[.int .i64 rx, .int .i64 ry, .slice ar n1 cr] 26 (0, 0)) ∧ w'.heap[w.heap.size + 1]? = some (.cells #[.int .i64 0, .int .i64 0, .slice none 0 0] 26 (0, 0))) := fun w' f => by
    have q2 := heap_alloc_new (w.alloc (.cells #[.int .i64 rx, .int .i64 ry, .slice ar n1 cr] 26)) (.cells #[.int .i64 0, .int .i64 0, .slice none 0 0] 26)
    have q1 := heap_alloc_new w (.cells #[.int .i64 rx, .int .i64 ry, .slice ar n1 cr] 26)
    simp only [World.size_alloc] at q1 q2
    exact ⟨blkOld f (blkUp q1 _), blkOld f q2⟩
  go_enter Try.func19, Try.ntmps19
  go_wp2_with fail
  generalize ((w.alloc (.cells #[.int .i64 rx, .int .i64 ry, .slice ar n1 cr] 26)).alloc (.cells #[.int .i64 0, .int .i64 0, .slice none 0 0] 26)) = wA at *
  refine (HCr.out _ HA.out).mono ?_
  rintro e w1 ⟨rfl, hf1⟩
  have HF1 : Hid (Fr (fun _ => False) wA w1) := hf1
  clear hf1
  cases b1
  · skip
    have hb9 := (HBX.out _ HF1.out).2
    have hset := set3_cells hb9 (.int .i64 0) (.int .i64 0) (.slice none 0 0)
    have hf9 : Fr (fun k => k = w.heap.size + 1) w1 (((w1.setCell ⟨w.heap.size + 1, 0, none⟩ (.int .i64 0)).setCell ⟨w.heap.size + 1, 1, none⟩ (.int .i64 0)).setCell ⟨w.heap.size + 1, 2, none⟩ (.slice none 0 0)) := (((Fr.refl (fun k => k = w.heap.size + 1) w1).setCell (p := ⟨w.heap.size + 1, 0, none⟩) (fun _ => rfl) _).setCell (p := ⟨w.heap.size + 1, 1, none⟩) (fun _ => rfl) _).setCell (p := ⟨w.heap.size + 1, 2, none⟩) (fun _ => rfl) _
    obtain ⟨w9, hw9⟩ : ∃ w9, w9 = (((w1.setCell ⟨w.heap.size + 1, 0, none⟩ (.int .i64 0)).setCell ⟨w.heap.size + 1, 1, none⟩ (.int .i64 0)).setCell ⟨w.heap.size + 1, 2, none⟩ (.slice none 0 0)) := ⟨_, rfl⟩
    rw [← hw9] at hset hf9
    obtain ⟨x0, x1, x2, xf⟩ := cell_of_three hset
    have HW9 := (show Hid (w9 = (((w1.setCell ⟨w.heap.size + 1, 0, none⟩ (.int .i64 0)).setCell ⟨w.heap.size + 1, 1, none⟩ (.int .i64 0)).setCell ⟨w.heap.size + 1, 2, none⟩ (.slice none 0 0))) from hw9)
    have HE : Hid (Fr (fun _ => False) w w9) := (HA.out.trans HF1.out (fun _ _ h => h)).trans hf9 (fun i hi e => by omega)
    obtain ⟨u0, u1, u2, uf⟩ := cell_of_three hb9
    clear hset hf9 xf hb9 hw9
    go_wp2_with fail
    rw [← HW9.out]
    refine bodyPost_ret (v := .tuple #[.agg #[.int .i64 0, .int .i64 0, .slice none 0 0], .int .i64 62]) (by simp [results, Try.results19, go_sem, x0, x1, x2]) rfl ?_
    exact ⟨rfl, HE.out⟩

  · go_wp2_with fail
    refine (HSz.out _).mono ?_
    rintro e w1 ⟨rfl, rfl⟩
    cases b2
    · skip
      have hb9 := (HBX.out _ HF1.out).2
      have hset := set3_cells hb9 (.int .i64 0) (.int .i64 0) (.slice none 0 0)
      have hf9 : Fr (fun k => k = w.heap.size + 1) w1 (((w1.setCell ⟨w.heap.size + 1, 0, none⟩ (.int .i64 0)).setCell ⟨w.heap.size + 1, 1, none⟩ (.int .i64 0)).setCell ⟨w.heap.size + 1, 2, none⟩ (.slice none 0 0)) := (((Fr.refl (fun k => k = w.heap.size + 1) w1).setCell (p := ⟨w.heap.size + 1, 0, none⟩) (fun _ => rfl) _).setCell (p := ⟨w.heap.size + 1, 1, none⟩) (fun _ => rfl) _).setCell (p := ⟨w.heap.size + 1, 2, none⟩) (fun _ => rfl) _
      obtain ⟨w9, hw9⟩ : ∃ w9, w9 = (((w1.setCell ⟨w.heap.size + 1, 0, none⟩ (.int .i64 0)).setCell ⟨w.heap.size + 1, 1, none⟩ (.int .i64 0)).setCell ⟨w.heap.size + 1, 2, none⟩ (.slice none 0 0)) := ⟨_, rfl⟩
      rw [← hw9] at hset hf9
      obtain ⟨x0, x1, x2, xf⟩ := cell_of_three hset
      have HW9 := (show Hid (w9 = (((w1.setCell ⟨w.heap.size + 1, 0, none⟩ (.int .i64 0)).setCell ⟨w.heap.size + 1, 1, none⟩ (.int .i64 0)).setCell ⟨w.heap.size + 1, 2, none⟩ (.slice none 0 0))) from hw9)
      have HE : Hid (Fr (fun _ => False) w w9) := (HA.out.trans HF1.out (fun _ _ h => h)).trans hf9 (fun i hi e => by omega)
      obtain ⟨u0, u1, u2, uf⟩ := cell_of_three hb9
      clear hset hf9 xf hb9 hw9
      go_wp2_with fail
      rw [← HW9.out]
      refine bodyPost_ret (v := .tuple #[.agg #[.int .i64 0, .int .i64 0, .slice none 0 0], .int .i64 63]) (by simp [results, Try.results19, go_sem, x0, x1, x2]) rfl ?_
      exact ⟨rfl, HE.out⟩

    · go_wp2_with fail
      refine (HMy.out _).mono ?_
      rintro e w1 ⟨rfl, rfl⟩
      cases b3
      · skip
        have hb9 := (HBX.out _ HF1.out).2
        have hset := set3_cells hb9 (.int .i64 0) (.int .i64 0) (.slice none 0 0)
        have hf9 : Fr (fun k => k = w.heap.size + 1) w1 (((w1.setCell ⟨w.heap.size + 1, 0, none⟩ (.int .i64 0)).setCell ⟨w.heap.size + 1, 1, none⟩ (.int .i64 0)).setCell ⟨w.heap.size + 1, 2, none⟩ (.slice none 0 0)) := (((Fr.refl (fun k => k = w.heap.size + 1) w1).setCell (p := ⟨w.heap.size + 1, 0, none⟩) (fun _ => rfl) _).setCell (p := ⟨w.heap.size + 1, 1, none⟩) (fun _ => rfl) _).setCell (p := ⟨w.heap.size + 1, 2, none⟩) (fun _ => rfl) _
        obtain ⟨w9, hw9⟩ : ∃ w9, w9 = (((w1.setCell ⟨w.heap.size + 1, 0, none⟩ (.int .i64 0)).setCell ⟨w.heap.size + 1, 1, none⟩ (.int .i64 0)).setCell ⟨w.heap.size + 1, 2, none⟩ (.slice none 0 0)) := ⟨_, rfl⟩
        rw [← hw9] at hset hf9
        obtain ⟨x0, x1, x2, xf⟩ := cell_of_three hset
        have HW9 := (show Hid (w9 = (((w1.setCell ⟨w.heap.size + 1, 0, none⟩ (.int .i64 0)).setCell ⟨w.heap.size + 1, 1, none⟩ (.int .i64 0)).setCell ⟨w.heap.size + 1, 2, none⟩ (.slice none 0 0))) from hw9)
        have HE : Hid (Fr (fun _ => False) w w9) := (HA.out.trans HF1.out (fun _ _ h => h)).trans hf9 (fun i hi e => by omega)
        obtain ⟨u0, u1, u2, uf⟩ := cell_of_three hb9
        clear hset hf9 xf hb9 hw9
        go_wp2_with fail
        rw [← HW9.out]
        refine bodyPost_ret (v := .tuple #[.agg #[.int .i64 0, .int .i64 0, .slice none 0 0], .int .i64 70]) (by simp [results, Try.results19, go_sem, x0, x1, x2]) rfl ?_
        exact ⟨rfl, HE.out⟩

      · simp at he

set_option maxRecDepth 100000 in
set_option maxHeartbeats 4000000 in
theorem rrdecode_ok (v : Value) (B : List Nat) (W H V U : Nat) (vr : Value) (R : Pxs) (dx dy : Int) (w : World) (hv : SeenAt w v B) (hnil : v = .slice none 0 0 ∨ ∃ a n c, v = .slice (some a) n c) (hB : ∀ y ∈ B, y < 256) (h1 : 1 ≤ W) (h2 : 1 ≤ H) (h3 : W * H ≤ 1048576) (hr : Bm w vr V U R) (hdx : -1048576 ≤ dx ∧ dx ≤ 1048576) (hdy : -1048576 ≤ dy ∧ dy ≤ 1048576) :
    Calls Try.prog 19 #[v, .int .i64 W, .int .i64 H, .agg #[.int .i64 V, .int .i64 U, vr], .int .i64 dx, .int .i64 dy] w fun e w' => ∃ g cap, e = .returned (.tuple #[.agg #[.int .i64 W, .int .i64 H, .slice (some ⟨g, 0, none⟩) (H * stride W) cap], .int .i64 0]) ∧ RowAt w' g cap W H (gotW B (cxR W (refP V U R dx dy)) 0 W H (newD B 8192)).2 ∧ w.heap.size ≤ g ∧ Fr (fun _ => False) w w' := by
  obtain ⟨f1, f2, f3⟩ := size_facts h1 h2 h3
  have HMR : Hid (∀ w', Fr (fun _ => False) w w' → Calls Try.prog 22 #[.agg #[.int .i64 V, .int .i64 U, vr]] w' fun e w'' => e = .returned (.bool true) ∧ Fr (fun _ => False) w' w'') := fun w' hf => by
    obtain ⟨f1, f2, f3⟩ := size_facts hr.h1 hr.h2 hr.h3
    have := may_any V U vr _ w' (by omega) (by omega) (hr.kept hf).seen (render_lt' V U R)
    rwa [render_valid V U R hr.h1 hr.h2 hr.h3] at this
  have HSz : Hid (∀ w', Calls Try.prog 16 #[.int .i64 W, .int .i64 H] w' fun e w'' => e = .returned (.bool true) ∧ w'' = w') := fun w' => by
    have := zSize_any W H w' (by omega) (by omega)
    rwa [show sizeOK (W : Int) (H : Int) = true from decide_eq_true ⟨by omega, by omega, by rw [← Int.natCast_mul]; omega⟩] at this
  have HM6 : Hid (∀ w', Calls Try.prog 26 #[.int .i64 dx, .int .i64 dy] w' fun e w'' => e = .returned (.bool true) ∧ w'' = w') := fun w' => by
    have := rmay_any dx dy w'
    rwa [show mayS dx dy = true from decide_eq_true ⟨hdx, hdy⟩] at this
  have HNw : Hid (∀ w', Fr (fun _ => False) w w' → Calls Try.prog 38 #[v, .int .i64 8192] w' fun e w'' => ∃ br gt ct gs gz vb, e = .returned (.pointer (some ⟨br, 0, none⟩)) ∧ RdAt w'' br gt ct gs gz 8192 vb B (newD B 8192) ∧ Fr (fun _ => False) w' w'' ∧ w'.heap.size ≤ br ∧ w'.heap.size ≤ gt ∧ w'.heap.size ≤ gs ∧ w'.heap.size ≤ gz) := fun w' f => rnewD_all w' v B 8192 (by omega) (by omega) (hv.kept f (fun _ _ h => h)) hnil hB
  have HGt : Hid (∀ (w' : World) (br gt ct gs gz : Nat) (vb : Value), Fr (fun _ => False) w w' → w.heap.size ≤ br → w.heap.size ≤ gs → w.heap.size ≤ gz → RdAt w' br gt ct gs gz 8192 vb B (newD B 8192) → Calls Try.prog 37 #[.pointer (some ⟨br, 0, none⟩), .int .i64 0, .int .i64 W, .int .i64 H, .agg #[.int .i64 V, .int .i64 U, vr], .int .i64 dx, .int .i64 dy] w' fun e w'' => ∃ g cap, e = .returned (.tuple #[.agg #[.int .i64 W, .int .i64 H, .slice (some ⟨g, 0, none⟩) (H * stride W) cap], .int .i64 0]) ∧ RowAt w'' g cap W H (gotW B (cxR W (refP V U R dx dy)) 0 W H (newD B 8192)).2 ∧ w'.heap.size ≤ g ∧ Fr (fun k => k = br ∨ k = gs ∨ k = gz) w' w'') := fun w' br gt ct gs gz vb f l1 l2 l3 hd =>
    rrget_ok br gt ct gs gz 8192 vb B (newD B 8192) 0 W H V U vr R dx dy w' hd (newD_ok (by omega) (by omega) hB) (fun w2 f2 => hr.kept (f.trans f2 (fun i hi e => by omega))) h1 h2 h3 hdx hdy (by omega) (by show 0 + _ ≤ _; rw [Nat.mul_comm]; omega)
  obtain ⟨n0, HN0⟩ : ∃ n0, Hid (n0 = H * stride W) := ⟨_, rfl⟩
  rw [← HN0.out] at HGt ⊢
  obtain ⟨Q, HQQ⟩ : ∃ Q, Hid (Q = gotW B (cxR W (refP V U R dx dy)) 0 W H (newD B 8192)) := ⟨_, rfl⟩
  rw [← HQQ.out] at HGt ⊢
  obtain ⟨ar, cr, hvr, -, -⟩ := hr.seen
  generalize (render V U R).length = n1 at *
  subst hvr
  obtain ⟨ao, cv, hvv, -, -⟩ := hv
  generalize B.length = nB at *
  subst hvv
  clear h1 h2 h3 hB hr hdx hdy hnil f3
  obtain ⟨N0, HNN⟩ : ∃ N0, Hid (N0 = newD B 8192) := ⟨_, rfl⟩
  rw [← HNN.out] at HNw HGt
  have HA : Hid (Fr (fun _ => False) w ((w.alloc (.cells #[.int .i64 V, .int .i64 U, .slice ar n1 cr] 26)).alloc (.cells #[.int .i64 0, .int .i64 0, .slice none 0 0] 26))) := ((Fr.refl _ _).alloc _).alloc _
  have HBX : Hid (∀ w', Fr (fun _ => False) ((w.alloc (.cells #[.int .i64 V, .int .i64 U, .slice ar n1 cr] 26)).alloc (.cells #[.int .i64 0, .int .i64 0, .slice none 0 0] 26)) w' → w'.heap[w.heap.size]? = some (.cells #[.int .i64 V, .int .i64 U, .slice ar n1 cr] 26 (0, 0)) ∧ w'.heap[w.heap.size + 1]? = some (.cells #[.int .i64 0, .int .i64 0, .slice none 0 0] 26 (0, 0))) := fun w' f => by
    have q2 := heap_alloc_new (w.alloc (.cells #[.int .i64 V, .int .i64 U, .slice ar n1 cr] 26)) (.cells #[.int .i64 0, .int .i64 0, .slice none 0 0] 26)
    have q1 := heap_alloc_new w (.cells #[.int .i64 V, .int .i64 U, .slice ar n1 cr] 26)
    simp only [World.size_alloc] at q1 q2
    exact ⟨blkOld f (blkUp q1 _), blkOld f q2⟩
  go_enter Try.func19, Try.ntmps19
  go_wp2_with fail
  generalize ((w.alloc (.cells #[.int .i64 V, .int .i64 U, .slice ar n1 cr] 26)).alloc (.cells #[.int .i64 0, .int .i64 0, .slice none 0 0] 26)) = wA at *
  have hwA : w.heap.size + 1 < wA.heap.size := lt_of_block (HBX.out _ (Fr.refl _ _)).2
  refine (HMR.out _ HA.out).mono ?_
  rintro e w1 ⟨rfl, hf1⟩
  have HF1 : Hid (Fr (fun _ => False) wA w1) := hf1
  clear hf1
  go_wp2_with fail
  refine (HSz.out _).mono ?_
  rintro e w1 ⟨rfl, rfl⟩
  go_wp2_with fail
  refine (HM6.out _).mono ?_
  rintro e w1 ⟨rfl, rfl⟩
  go_wp2_with fail
  have HNx : Hid (∀ w', Fr (fun k => k = w.heap.size + 1) wA w' → w'.heap[w.heap.size + 1]? = some (.cells #[.int .i64 0, .int .i64 0, .slice none 0 0] 26 (0, 0)) → Calls Try.prog 38 #[.slice ao nB cv, .int .i64 8192] w' fun e w'' => ∃ br gt ct gs gz vb, e = .returned (.pointer (some ⟨br, 0, none⟩)) ∧ RdAt w'' br gt ct gs gz 8192 vb B N0 ∧ Fr (fun k => k = w.heap.size + 1) wA w'' ∧ wA.heap.size ≤ br ∧ wA.heap.size ≤ gs ∧ wA.heap.size ≤ gz ∧ w''.heap[w.heap.size + 1]? = some (.cells #[.int .i64 0, .int .i64 0, .slice none 0 0] 26 (0, 0))) := fun w' f hb => by
    refine (HNw.out w' (HA.out.trans f (fun i hi e => by omega))).mono ?_
    rintro e w'' ⟨br, gt, ct, gs, gz, vb, rfl, hd, hf, l1, l2, l3, l4⟩
    have := f.size
    exact ⟨br, gt, ct, gs, gz, vb, rfl, hd, f.trans (hf.mono (fun _ _ h => h.elim)) (fun _ _ h => h), by omega, by omega, by omega, blkOld hf hb⟩
  have HGx : Hid (∀ (w' : World) (br gt ct gs gz : Nat) (vb : Value), Fr (fun k => k = w.heap.size + 1) wA w' → wA.heap.size ≤ br → wA.heap.size ≤ gs → wA.heap.size ≤ gz → RdAt w' br gt ct gs gz 8192 vb B N0 → w'.heap[w.heap.size + 1]? = some (.cells #[.int .i64 0, .int .i64 0, .slice none 0 0] 26 (0, 0)) → Calls Try.prog 37 #[.pointer (some ⟨br, 0, none⟩), .int .i64 0, .int .i64 W, .int .i64 H, .agg #[.int .i64 V, .int .i64 U, .slice ar n1 cr], .int .i64 dx, .int .i64 dy] w' fun e w'' => ∃ g cap, e = .returned (.tuple #[.agg #[.int .i64 W, .int .i64 H, .slice (some ⟨g, 0, none⟩) n0 cap], .int .i64 0]) ∧ RowAt w'' g cap W H Q.2 ∧ wA.heap.size ≤ g ∧ Fr (fun k => k = w.heap.size + 1) wA w'' ∧ w''.heap[w.heap.size + 1]? = some (.cells #[.int .i64 0, .int .i64 0, .slice none 0 0] 26 (0, 0))) := fun w' br gt ct gs gz vb f l1 l2 l3 hd hb => by
    refine (HGt.out w' br gt ct gs gz vb (HA.out.trans f (fun i hi e => by omega)) (by omega) (by omega) (by omega) hd).mono ?_
    rintro e w'' ⟨g, cap, rfl, hrow, hg, hf⟩
    have hsz := f.size
    refine ⟨g, cap, rfl, hrow, by omega, f.trans hf (fun i hi e => by omega), ?_⟩
    rw [hf.block _ (lt_of_block hb) (by omega)]
    exact hb
  have HSr : Hid (∀ w', Fr (fun k => k = w.heap.size + 1) wA w' → w'.cell? ⟨w.heap.size, 0, none⟩ = some (.int .i64 V) ∧ w'.cell? ⟨w.heap.size, 1, none⟩ = some (.int .i64 U) ∧ w'.cell? ⟨w.heap.size, 2, none⟩ = some (.slice ar n1 cr)) := fun w' f => by
    have b1 := (HBX.out _ (Fr.refl _ _)).1
    obtain ⟨c0, c1, c2, _⟩ := cell_of_three ((f.block w.heap.size (lt_of_block b1) (by omega)).trans b1)
    exact ⟨c0, c1, c2⟩
  have HF1' : Hid (Fr (fun k => k = w.heap.size + 1) wA w1) := HF1.out.mono (fun _ _ h => h.elim)
  have HB1 : Hid (w1.heap[w.heap.size + 1]? = some (.cells #[.int .i64 0, .int .i64 0, .slice none 0 0] 26 (0, 0))) := (HBX.out _ HF1.out).2
  go_region_held3 (fun w' => w'.cell? ⟨w.heap.size, 0, none⟩ = some (.int .i64 V) ∧ w'.cell? ⟨w.heap.size, 1, none⟩ = some (.int .i64 U) ∧ w'.cell? ⟨w.heap.size, 2, none⟩ = some (.slice ar n1 cr)) (exact HSr.out _ (by repeat (first | with_reducible exact HF1'.out | with_reducible exact hf4 | with_reducible exact hf3 | with_reducible refine Fr.drew ?_ | with_reducible refine Fr.slot ?_))) (first | (go_at_call 38; refine (HNx.out _ (by repeat (first | with_reducible exact HF1'.out | with_reducible refine Fr.drew ?_)) (by exact HB1.out)).mono ?_; rintro e w3 ⟨br, gt, ct, gs, gz, vb, rfl, hd3, hf3, l1, l2, l3, hb3⟩) | (go_at_call 37; refine (HGx.out _ br gt ct gs gz vb (by repeat (first | with_reducible exact hf3 | with_reducible refine Fr.drew ?_)) l1 l2 l3 (by exact hd3) (by exact hb3)).mono ?_; rintro e w4 ⟨g, cap, rfl, hr4, hg4, hf4, hb4⟩; obtain ⟨u0, u1, u2, uf⟩ := cell_of_three hb4))
  have hset := set3_cells hb4 (.int .i64 W) (.int .i64 H) (.slice (some ⟨g, 0, none⟩) n0 cap)
  have hf9 : Fr (fun k => k = w.heap.size + 1) w4 (((w4.setCell ⟨w.heap.size + 1, 0, none⟩ (.int .i64 W)).setCell ⟨w.heap.size + 1, 1, none⟩ (.int .i64 H)).setCell ⟨w.heap.size + 1, 2, none⟩ (.slice (some ⟨g, 0, none⟩) n0 cap)) := (((Fr.refl (fun k => k = w.heap.size + 1) w4).setCell (p := ⟨w.heap.size + 1, 0, none⟩) (fun _ => rfl) _).setCell (p := ⟨w.heap.size + 1, 1, none⟩) (fun _ => rfl) _).setCell (p := ⟨w.heap.size + 1, 2, none⟩) (fun _ => rfl) _
  generalize (((w4.setCell ⟨w.heap.size + 1, 0, none⟩ (.int .i64 W)).setCell ⟨w.heap.size + 1, 1, none⟩ (.int .i64 H)).setCell ⟨w.heap.size + 1, 2, none⟩ (.slice (some ⟨g, 0, none⟩) n0 cap)) = w9 at *
  obtain ⟨x0, x1, x2, xf⟩ := cell_of_three hset
  have HE : Hid (RowAt w9 g cap W H Q.2 ∧ w.heap.size ≤ g ∧ Fr (fun _ => False) w w9) := ⟨hr4.kept hf9 (by omega), by omega, HA.out.trans (hf4.trans hf9 (fun _ _ h => h)) (fun i hi e => by omega)⟩
  clear hr4 hg4 hf4 hset hf9 xf hb4 u0 u1 u2 uf hd3 hf3 l1 l2 l3 hb3
  go_wp2_with fail
  refine bodyPost_ret (v := .tuple #[.agg #[.int .i64 W, .int .i64 H, .slice (some ⟨g, 0, none⟩) n0 cap], .int .i64 0]) (by simp [results, Try.results19, go_sem, x0, x1, x2]) rfl ?_
  exact ⟨g, cap, rfl, HE.out⟩

theorem rrdecode_all (v : Value) (B : List Nat) (x y rx ry : Int) (rv : Value) (rl : List Nat) (dx dy : Int) (w : World) (hv : SeenAt w v B) (hnil : v = .slice none 0 0 ∨ ∃ a n c, v = .slice (some a) n c) (hB : ∀ y ∈ B, y < 256) (hx : -9223372036854775808 ≤ x ∧ x ≤ 9223372036854775807) (hy : -9223372036854775808 ≤ y ∧ y ≤ 9223372036854775807) (hr : MpS w rx ry rv rl) :
    Calls Try.prog 19 #[v, .int .i64 x, .int .i64 y, .agg #[.int .i64 rx, .int .i64 ry, rv], .int .i64 dx, .int .i64 dy] w fun e w' => ∃ vf, e = .returned (.tuple #[.agg #[.int .i64 (decN x y rx ry rl dx dy x), .int .i64 (decN x y rx ry rl dx dy y), vf], .int .i64 (decE x y rx ry rl dx dy)]) ∧ Seen w' vf (rdL B x y rx ry rl dx dy) ∧ (∀ k, vf.ownBlock = some k → w.heap.size ≤ k) ∧ Fr (fun _ => False) w w' := by
  by_cases he : decE x y rx ry rl dx dy ≠ 0
  · refine (rrdecode_bad v B x y rx ry rv rl dx dy w hv hx hy hr he).mono ?_
    rintro e w' ⟨rfl, hf⟩
    unfold decN rdL
    rw [if_neg he, if_neg he, if_neg he]
    exact ⟨_, rfl, seen_none w', fun k hk => by simp [Value.ownBlock] at hk, hf⟩
  · have he' : decE x y rx ry rl dx dy = 0 := by omega
    obtain ⟨h1, h2, h3⟩ := decE_ok he'
    unfold decN rdL
    rw [if_pos he', if_pos he', if_pos he', he']
    obtain ⟨V, U, rfl, rfl, hl, hbm⟩ := valid_bm2 h1 hr.hv hr.hc hr.hlt
    unfold sizeOK at h2
    obtain ⟨s1, s2, s3⟩ := of_decide_eq_true h2
    obtain ⟨W, rfl⟩ : ∃ W : Nat, x = W := ⟨x.toNat, by omega⟩
    obtain ⟨H, rfl⟩ : ∃ H : Nat, y = H := ⟨y.toNat, by omega⟩
    rw [← Int.natCast_mul] at s3
    have hm := of_decide_eq_true h3
    refine (rrdecode_ok v B W H V U rv _ dx dy w hv hnil hB (by omega) (by omega) (by omega) hbm hm.1 hm.2).mono ?_
    rintro e w' ⟨g, cap, rfl, hrow, hg, hf⟩
    exact ⟨_, rfl, hrow.seen (size_facts (by omega) (by omega) (by omega)).2.2, fun k hk => by simp [Value.ownBlock] at hk; omega, hf⟩

end Go.Proofs.Ytmfpoabhmpljgaa
