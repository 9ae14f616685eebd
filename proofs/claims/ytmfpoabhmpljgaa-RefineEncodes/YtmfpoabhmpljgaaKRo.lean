/- The document's own Encode, whatever it is given. -/
import Derived.Test.YtmfpoabhmpljgaaKEn
namespace Go.Proofs.Ytmfpoabhmpljgaa
open Go.RowKit

set_option maxRecDepth 100000 in
set_option maxHeartbeats 2000000 in
theorem rrencode_bad (x y : Int) (v : Value) (l : List Nat) (rx ry : Int) (rv : Value) (rl : List Nat) (dx dy : Int) (w : World) (hb : MpS w x y v l) (hr : MpS w rx ry rv rl) (he : encE x y l rx ry rl dx dy ≠ 0) :
    Calls Try.prog 12 #[.agg #[.int .i64 x, .int .i64 y, v], .agg #[.int .i64 rx, .int .i64 ry, rv], .int .i64 dx, .int .i64 dy] w fun e w' => e = .returned (.tuple #[.slice none 0 0, .int .i64 (encE x y l rx ry rl dx dy)]) ∧ Fr (fun _ => False) w w' := by
  have HCk : Hid (∀ w', Fr (fun _ => False) w w' → Calls Try.prog 22 #[.agg #[.int .i64 x, .int .i64 y, v]] w' fun e w'' => e = .returned (.bool (validB x y l)) ∧ Fr (fun _ => False) w' w'') := fun w' f => (hb.kept f).may
  have HCr : Hid (∀ w', Fr (fun _ => False) w w' → Calls Try.prog 22 #[.agg #[.int .i64 rx, .int .i64 ry, rv]] w' fun e w'' => e = .returned (.bool (validB rx ry rl)) ∧ Fr (fun _ => False) w' w'') := fun w' f => (hr.kept f).may
  have HMy : Hid (∀ w', Calls Try.prog 26 #[.int .i64 dx, .int .i64 dy] w' fun e w'' => e = .returned (.bool (mayS dx dy)) ∧ w'' = w') := fun w' => rmay_any dx dy w'
  obtain ⟨ao, cv, hvv, -, -⟩ := hb.hv
  obtain ⟨ar, cr, hvr, -, -⟩ := hr.hv
  generalize l.length = n0 at *
  generalize rl.length = n1 at *
  subst hvv
  subst hvr
  unfold encE okA at *
  generalize validB x y l = b1 at *
  generalize validB rx ry rl = b2 at *
  generalize mayS dx dy = b3 at *
  clear hb hr
  have HA : Hid (Fr (fun _ => False) w ((w.alloc (.cells #[.int .i64 x, .int .i64 y, .slice ao n0 cv] 26)).alloc (.cells #[.int .i64 rx, .int .i64 ry, .slice ar n1 cr] 26))) := ((Fr.refl _ _).alloc _).alloc _
  have HBX : Hid (∀ w', Fr (fun _ => False) ((w.alloc (.cells #[.int .i64 x, .int .i64 y, .slice ao n0 cv] 26)).alloc (.cells #[.int .i64 rx, .int .i64 ry, .slice ar n1 cr] 26)) w' → w'.heap[w.heap.size + 1]? = some (.cells #[.int .i64 rx, .int .i64 ry, .slice ar n1 cr] 26 (0, 0))) := fun w' f => by
    have q4 := heap_alloc_new (w.alloc (.cells #[.int .i64 x, .int .i64 y, .slice ao n0 cv] 26)) (.cells #[.int .i64 rx, .int .i64 ry, .slice ar n1 cr] 26)
    simp only [World.size_alloc] at q4
    exact blkOld f q4
  cases b1
  · simp only [Bool.false_and, Bool.false_eq_true, if_false]
    go_enter Try.func12, Try.ntmps12
    go_wp2_with fail
    refine (HCk.out _ HA.out).mono ?_
    rintro e w5 ⟨rfl, hf5⟩
    have HF5 : Hid (Fr (fun _ => False) w w5) := HA.out.trans hf5 (fun _ _ h => h)
    clear hf5
    go_wp2_with fail
    go_ret2
    exact ⟨rfl, HF5.out⟩
  · cases b2
    · simp only [Bool.true_and, Bool.false_eq_true, if_false]
      go_enter Try.func12, Try.ntmps12
      go_wp2_with fail
      refine (HCk.out _ HA.out).mono ?_
      rintro e w5 ⟨rfl, hf5⟩
      have HF5 : Hid (Fr (fun _ => False) w w5) := HA.out.trans hf5 (fun _ _ h => h)
      obtain ⟨q0, q1, q2, qf⟩ := cell_of_three (HBX.out _ hf5)
      clear hf5
      go_wp2_with fail
      refine (HCr.out _ HF5.out).mono ?_
      rintro e w6 ⟨rfl, hf6⟩
      have HF6 : Hid (Fr (fun _ => False) w w6) := HF5.out.trans hf6 (fun _ _ h => h)
      clear hf6 q0 q1 q2 qf
      go_wp2_with fail
      go_ret2
      exact ⟨rfl, HF6.out⟩
    · cases b3
      · simp only [Bool.true_and, Bool.false_eq_true, if_false, if_true]
        go_enter Try.func12, Try.ntmps12
        go_wp2_with fail
        refine (HCk.out _ HA.out).mono ?_
        rintro e w5 ⟨rfl, hf5⟩
        have HF5 : Hid (Fr (fun _ => False) w w5) := HA.out.trans hf5 (fun _ _ h => h)
        obtain ⟨q0, q1, q2, qf⟩ := cell_of_three (HBX.out _ hf5)
        clear hf5
        go_wp2_with fail
        refine (HCr.out _ HF5.out).mono ?_
        rintro e w6 ⟨rfl, hf6⟩
        have HF6 : Hid (Fr (fun _ => False) w w6) := HF5.out.trans hf6 (fun _ _ h => h)
        clear hf6 q0 q1 q2 qf
        go_wp2_with fail
        refine (HMy.out _).mono ?_
        rintro e w6 ⟨rfl, rfl⟩
        go_wp2_with fail
        go_ret2
        exact ⟨rfl, HF6.out⟩
      · simp at he

set_option maxRecDepth 100000 in
set_option maxHeartbeats 4000000 in
theorem rrencode_ok (W H : Nat) (v : Value) (P : Pxs) (V U : Nat) (vr : Value) (R : Pxs) (dx dy : Int) (w : World) (hb : Bm w v W H P) (hr : Bm w vr V U R) (hdx : -1048576 ≤ dx ∧ dx ≤ 1048576) (hdy : -1048576 ≤ dy ∧ dy ≤ 1048576) :
    Calls Try.prog 12 #[.agg #[.int .i64 W, .int .i64 H, v], .agg #[.int .i64 V, .int .i64 U, vr], .int .i64 dx, .int .i64 dy] w fun e w' => ∃ vf, e = .returned (.tuple #[vf, .int .i64 0]) ∧ SeenAt w' vf (codedB 8192 (rowsD (cxR W (refP V U R dx dy)) 0 W P H)) ∧ (∀ k, vf.ownBlock = some k → w.heap.size ≤ k) ∧ Fr (fun _ => False) w w' := by
  have h3 := hb.h3
  have HMY : Hid (∀ w', Fr (fun _ => False) w w' → Calls Try.prog 22 #[.agg #[.int .i64 W, .int .i64 H, v]] w' fun e w'' => e = .returned (.bool true) ∧ Fr (fun _ => False) w' w'') := fun w' hf => by
    obtain ⟨f1, f2, f3⟩ := size_facts hb.h1 hb.h2 hb.h3
    have := may_any W H v _ w' (by omega) (by omega) (hb.kept hf).seen (render_lt' W H P)
    rwa [render_valid W H P hb.h1 hb.h2 hb.h3] at this
  have HMR : Hid (∀ w', Fr (fun _ => False) w w' → Calls Try.prog 22 #[.agg #[.int .i64 V, .int .i64 U, vr]] w' fun e w'' => e = .returned (.bool true) ∧ Fr (fun _ => False) w' w'') := fun w' hf => by
    obtain ⟨f1, f2, f3⟩ := size_facts hr.h1 hr.h2 hr.h3
    have := may_any V U vr _ w' (by omega) (by omega) (hr.kept hf).seen (render_lt' V U R)
    rwa [render_valid V U R hr.h1 hr.h2 hr.h3] at this
  have HM6 : Hid (∀ w', Calls Try.prog 26 #[.int .i64 dx, .int .i64 dy] w' fun e w'' => e = .returned (.bool true) ∧ w'' = w') := fun w' => by
    have := rmay_any dx dy w'
    rwa [show mayS dx dy = true from decide_eq_true ⟨hdx, hdy⟩] at this
  have HNw : Hid (∀ w', Calls Try.prog 28 #[.int .i64 8192] w' fun e w'' => ∃ br gt ct gs gz gb, e = .returned (.pointer (some ⟨br, 0, none⟩)) ∧ ReAt w'' br gt ct gs gz 8192 gb 1 (newP 8192) false ∧ Fr (fun _ => False) w' w'' ∧ w'.heap.size ≤ br ∧ w'.heap.size ≤ gt ∧ w'.heap.size ≤ gs ∧ w'.heap.size ≤ gz ∧ w'.heap.size ≤ gb) := fun w' => rnew_any w' 8192 (by omega) (by omega)
  have HPt : Hid (∀ (w' : World) (br gt ct gs gz gb : Nat), Fr (fun _ => False) w w' → w.heap.size ≤ br → w.heap.size ≤ gs → w.heap.size ≤ gz → w.heap.size ≤ gb → ReAt w' br gt ct gs gz 8192 gb 1 (newP 8192) false → Calls Try.prog 30 #[.pointer (some ⟨br, 0, none⟩), .int .i64 0, .agg #[.int .i64 W, .int .i64 H, v], .agg #[.int .i64 V, .int .i64 U, vr], .int .i64 dx, .int .i64 dy] w' fun e w'' => e = .returned (.int .i64 0) ∧ ∃ gb' cb', ReAt w'' br gt ct gs gz 8192 gb' cb' (runL (newP 8192) (rowsD (cxR W (refP V U R dx dy)) 0 W P H)) false ∧ Ook (runL (newP 8192) (rowsD (cxR W (refP V U R dx dy)) 0 W P H)) ∧ RStep br gs gz gb gb' w' w'') := fun w' br gt ct gs gz gb f l1 l2 l3 l4 hre =>
    rrput_ok br gt ct gs gz 8192 gb 1 (newP 8192) 0 W H v P V U vr R dx dy w' hre (newP_ok (by omega) (by omega)) (fun w2 f2 => ⟨hb.kept (f.trans f2 (fun i hi e => by omega)), hr.kept (f.trans f2 (fun i hi e => by omega))⟩) hdx hdy (by omega) (by show 0 + _ ≤ _; rw [Nat.mul_comm]; omega)
  obtain ⟨ao, cv, hv, -, -⟩ := hb.seen
  obtain ⟨ar, cr, hvr, -, -⟩ := hr.seen
  generalize (render W H P).length = n0 at *
  generalize (render V U R).length = n1 at *
  subst hv
  subst hvr
  unfold codedB
  clear hb hr h3 hdx hdy
  generalize hRR : runL (newP 8192) (rowsD (cxR W (refP V U R dx dy)) 0 W P H) = RR at *
  clear hRR
  generalize newP 8192 = N0 at *
  have HA : Hid (Fr (fun _ => False) w ((w.alloc (.cells #[.int .i64 W, .int .i64 H, .slice ao n0 cv] 26)).alloc (.cells #[.int .i64 V, .int .i64 U, .slice ar n1 cr] 26))) := ((Fr.refl _ _).alloc _).alloc _
  have HBX : Hid (∀ w', Fr (fun _ => False) ((w.alloc (.cells #[.int .i64 W, .int .i64 H, .slice ao n0 cv] 26)).alloc (.cells #[.int .i64 V, .int .i64 U, .slice ar n1 cr] 26)) w' → w'.heap[w.heap.size]? = some (.cells #[.int .i64 W, .int .i64 H, .slice ao n0 cv] 26 (0, 0)) ∧ w'.heap[w.heap.size + 1]? = some (.cells #[.int .i64 V, .int .i64 U, .slice ar n1 cr] 26 (0, 0))) := fun w' f => by
    have q2 := heap_alloc_new (w.alloc (.cells #[.int .i64 W, .int .i64 H, .slice ao n0 cv] 26)) (.cells #[.int .i64 V, .int .i64 U, .slice ar n1 cr] 26)
    have q1 := heap_alloc_new w (.cells #[.int .i64 W, .int .i64 H, .slice ao n0 cv] 26)
    simp only [World.size_alloc] at q1 q2
    exact ⟨blkOld f (blkUp q1 _), blkOld f q2⟩
  go_enter Try.func12, Try.ntmps12
  go_wp2_with fail
  generalize ((w.alloc (.cells #[.int .i64 W, .int .i64 H, .slice ao n0 cv] 26)).alloc (.cells #[.int .i64 V, .int .i64 U, .slice ar n1 cr] 26)) = w0 at *
  refine (HMY.out _ HA.out).mono ?_
  rintro e w1 ⟨rfl, hf1⟩
  have HF1 : Hid (Fr (fun _ => False) w0 w1) := hf1
  clear hf1
  obtain ⟨p0, p1, p2, pf⟩ := cell_of_three (HBX.out _ HF1.out).2
  go_wp2_with fail
  refine (HMR.out _ (HA.out.trans HF1.out (fun _ _ h => h))).mono ?_
  rintro e w2 ⟨rfl, hf2⟩
  have HF2 : Hid (Fr (fun _ => False) w0 w2) := HF1.out.trans hf2 (fun _ _ h => h)
  clear hf2 p0 p1 p2 pf
  go_wp2_with fail
  refine (HM6.out _).mono ?_
  rintro e w2 ⟨rfl, rfl⟩
  go_wp2_with fail
  refine (HNw.out _).mono ?_
  rintro e w4 ⟨br, gt, ct, gs, gz, gb, rfl, hr4, hf4, l1, l2, l3, l4, l5⟩
  have HF4 : Hid (Fr (fun _ => False) w0 w4) := HF2.out.trans hf4 (fun _ _ h => h)
  have HR4 : Hid (ReAt w4 br gt ct gs gz 8192 gb 1 N0 false ∧ w.heap.size ≤ br ∧ w.heap.size ≤ gs ∧ w.heap.size ≤ gz ∧ w.heap.size ≤ gb) := by
    have := (HA.out.trans HF2.out (fun _ _ h => h)).size
    exact ⟨hr4, by omega, by omega, by omega, by omega⟩
  clear hr4 hf4 l1 l2 l3 l4 l5
  obtain ⟨c0, c1, c2, cf⟩ := cell_of_three (HBX.out _ HF4.out).1
  obtain ⟨p0, p1, p2, pf⟩ := cell_of_three (HBX.out _ HF4.out).2
  go_wp2_with fail
  refine (HPt.out _ br gt ct gs gz gb (HA.out.trans HF4.out (fun _ _ h => h)) HR4.out.2.1 HR4.out.2.2.1 HR4.out.2.2.2.1 HR4.out.2.2.2.2 HR4.out.1).mono ?_
  rintro e w5 ⟨rfl, gb', cb', hr5, ho5, hs5⟩
  have H5 : Hid (ReAt w5 br gt ct gs gz 8192 gb' cb' RR false ∧ Ook RR ∧ Fr (fun _ => False) w w5 ∧ w.heap.size ≤ gb') := by
    have hh := HR4.out
    have hsz := (HA.out.trans HF4.out (fun _ _ h => h)).size
    refine ⟨hr5, ho5, (HA.out.trans HF4.out (fun _ _ h => h)).trans hs5.fr (fun i hi e => by omega), ?_⟩
    rcases hs5.row with a | a <;> omega
  clear hr5 ho5 hs5 c0 c1 c2 cf p0 p1 p2 pf
  go_wp2_with fail
  refine (rflush_any _ br gt ct gs gz 8192 gb' cb' RR H5.out.1 H5.out.2.1).mono ?_
  rintro e w6 ⟨gq, N, cq, gb2, cb2, rfl, ho6, hg6, _, hs6⟩
  have H6 : Hid (SeenAt w6 (.slice (some ⟨gq, 0, none⟩) N cq) (flushP RR.s) ∧ w.heap.size ≤ gq ∧ Fr (fun _ => False) w w6) := by
    have hh := HR4.out
    have h5 := H5.out
    refine ⟨?_, by have := h5.2.2.1.size; omega, h5.2.2.1.trans hs6.fr (fun i hi e => by omega)⟩
    have hlen : (flushP RR.s).length = N := by have := ho6.1; rw [length_byteCells] at this; omega
    subst hlen
    refine SeenAt.of_row ho6 ?_
    have hb := h5.2.1.len
    have hm := h5.2.1.made
    have h2 := flush_two RR.s
    unfold flushP
    split
    · rw [List.length_drop]; omega
    · rw [List.length_drop, List.length_append]; simp; omega
  clear ho6 hg6 hs6
  go_wp2_with fail
  go_ret2
  exact ⟨_, rfl, H6.out.1, fun k hk => by simp [Value.ownBlock] at hk; have := H6.out.2.1; omega, H6.out.2.2⟩

theorem rrencode_all (x y : Int) (v : Value) (l : List Nat) (rx ry : Int) (rv : Value) (rl : List Nat) (dx dy : Int) (w : World) (hb : MpS w x y v l) (hr : MpS w rx ry rv rl) :
    Calls Try.prog 12 #[.agg #[.int .i64 x, .int .i64 y, v], .agg #[.int .i64 rx, .int .i64 ry, rv], .int .i64 dx, .int .i64 dy] w fun e w' => ∃ vf, e = .returned (.tuple #[vf, .int .i64 (encE x y l rx ry rl dx dy)]) ∧ SeenAt w' vf (encB x y l rx ry rl dx dy) ∧ (∀ k, vf.ownBlock = some k → w.heap.size ≤ k) ∧ Fr (fun _ => False) w w' := by
  by_cases he : encE x y l rx ry rl dx dy ≠ 0
  · refine (rrencode_bad x y v l rx ry rv rl dx dy w hb hr he).mono ?_
    rintro e w' ⟨rfl, hf⟩
    refine ⟨_, rfl, ?_, fun k hk => by simp [Value.ownBlock] at hk, hf⟩
    have : encB x y l rx ry rl dx dy = [] := by
      unfold encB
      unfold encE at he
      cases h1 : okA x y l rx ry rl
      · rfl
      · cases h2 : mayS dx dy
        · rfl
        · rw [h1, h2] at he; simp at he
    rw [this]
    exact seenAt_nil w'
  · have he' : encE x y l rx ry rl dx dy = 0 := by omega
    have h1 : okA x y l rx ry rl = true := by
      cases h : okA x y l rx ry rl
      · unfold encE at he'; rw [h] at he'; simp at he'
      · rfl
    have h2 : mayS dx dy = true := by
      cases h : mayS dx dy
      · unfold encE at he'; rw [h1, h] at he'; simp at he'
      · rfl
    rw [he']
    unfold encB encL
    rw [h1, h2]
    obtain ⟨W, H, V, U, rfl, rfl, rfl, rfl, b1, b2⟩ := okA_bm hb hr h1
    have hm := of_decide_eq_true h2
    exact rrencode_ok W H v _ V U rv _ dx dy w b1 b2 hm.1 hm.2

end Go.Proofs.Ytmfpoabhmpljgaa
