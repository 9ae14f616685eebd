/- 'same': the document's pages are those. -/
import Derived.Test.YtpblenebmjmijaaFd
namespace Go.Proofs.Ytpblenebmjmijaa
set_option maxRecDepth 100000
open Go.RowKit

set_option maxHeartbeats 1000000 in
theorem docPage_out (base d : Nat) (n : Int) (pv sv : Value) (ps ss : List Value) (w : World) (h : DocAt w base d pv sv ps ss) (hv : n < 0 ∨ (ps.length : Int) ≤ n) :
    Calls Try.prog 15 #[.pointer (some ⟨d, 0, none⟩), .int .i64 n] w fun e w' => e = .returned (.tuple #[.agg #[.int .i64 0, .int .i64 0, .slice none 0 0], .int .i64 182]) ∧ Fr (fun _ => False) w w' := by
  have HD : Hid (DocAt w base d pv sv ps ss) := h
  clear h
  go_enter Try.func15, Try.ntmps15
  go_wp2_with fail
  refine (page_out base d pv sv ps ss n _ (HD.out.kept (S := fun _ => False) ((Fr.refl _ _).alloc _) (fun h => h) (fun _ _ h => h) (fun _ _ h => h)) hv).mono ?_
  rintro e w1 ⟨rfl, rfl⟩
  go_wp2_with fail
  refine bodyPost_ret (results_box2 rfl _ _ w.heap.size 54 #[.int .i64 0, .int .i64 0, .slice none 0 0] (0, 0) _ rfl (heap_alloc_new w _) Try.underlying54 rfl (by kernel_rfl)) rfl ?_
  exact ⟨rfl, (Fr.refl _ _).alloc _⟩

set_option maxHeartbeats 4000000 in
theorem same_yes {w1 w : World} {d : Nat} {pgs : List PgI} {Pf Qf : Pix3} {pv sv v : Value} {ss : List Value} {A : Nat → Prop} (h : DU w1 w d pgs Pf pv sv ss) (hb : BL w A v pgs Qf) (he : ∀ (j : Nat) (p : PgI), pgs[j]? = some p → ∀ x y, x < p.W → y < p.H → Pf j x y = Qf j x y) :
    Calls Try.prog 12 #[.pointer (some ⟨d, 0, none⟩), v] w fun e w' => e = .returned (.bool true) ∧ Fr (fun _ => False) w w' := by
  have HD : Hid (DU w1 w d pgs Pf pv sv ss) := h
  have HE : Hid (∀ (j : Nat) (p : PgI), pgs[j]? = some p → render p.W p.H (Qf j) = render p.W p.H (Pf j)) := fun j p hj => render_congr (fun x y hx hy => (he j p hj x y hx hy).symm)
  have HBL : Hid (∀ w', Fr (fun _ => False) w w' → BL w' A v pgs Qf) := fun w' f => hb.kept f (fun _ e => e.elim) (fun _ _ e => e)
  obtain ⟨ao, cap, rfl, _⟩ := hb.sl
  have hle := h.le
  clear h hb he
  go_enter Try.func12, Try.ntmps12
  go_wp2_with fail
  refine (pages_any d d pv sv _ ss _ HD.out.doc).mono ?_
  rintro e w2 ⟨rfl, rfl⟩
  rw [ptrs_len]
  have hnn : ((pgs.length : Int) == (pgs.length : Int)) = true := by simp
  go_wp2_with fail
  go_loopw [5] (fun k wr => ∃ (i : Nat), i ≤ pgs.length ∧ k = .int .i64 (i : Int) ∧ Fr (fun _ => False) w2 wr) (fun k _ => pgs.length - (intOf k).toNat)
  case atStart => exact ⟨0, by omega, rfl, Fr.refl _ _⟩
  case round =>
    obtain ⟨i, hjq, rfl, hfr⟩ := hrel
    have HFr : Hid (Fr (fun _ => False) w2 wr) := hfr
    have HDr : Hid (DU w1 wr d pgs Pf pv sv ss) := HD.out.still hfr
    clear hfr
    by_cases h1 : i < pgs.length
    · obtain ⟨p, hp⟩ : ∃ p, pgs[i]? = some p := ⟨_, List.getElem?_eq_getElem h1⟩
      have HPI : Hid (pgs[i]? = some p) := hp
      clear hp
      go_wp2_with fail
      refine (docPage_in d d p.b p.g _ p.W p.H i _ pv sv _ ss _ HDr.out.doc (HDr.out.mp i p HPI.out) (ptrs_get HPI.out) HDr.out.pl).mono ?_
      rintro e w3 ⟨g2, cap2, rfl, hu, hf2, hg2⟩
      have hwl := (HDr.out.mp i p HPI.out).words_le
      obtain ⟨N, HN⟩ : ∃ N, Hid (N = p.H * stride p.W) := ⟨_, rfl⟩
      rw [← HN.out] at hu hwl ⊢
      have HU : Hid (w3.ownsRow 0 32 1 (.slice (some ⟨g2, 0, none⟩) N cap2) N (wordCells (render p.W p.H (Pf i)))) := hu
      have HF2 : Hid (Fr (fun _ => False) w2 w3) := HFr.out.trans hf2 (fun _ _ h => h)
      have HG2 : Hid (w2.heap.size ≤ g2) := Nat.le_trans HFr.out.size hg2
      have HNL : Hid (N ≤ 1048576) := hwl
      obtain ⟨_, _, hv, hcells⟩ := (HBL.out w3 HF2.out).sl
      cases hv
      obtain ⟨B, rfl, _, hBl, hcs⟩ := hcells (by omega)
      obtain ⟨g3, cp3, k0, k1, k2, _, ho3⟩ := hcs i p HPI.out
      rw [HE.out i p HPI.out, ← HN.out] at ho3
      rw [← HN.out] at k2
      have HO3 : Hid (w3.ownsRow 0 32 1 (.slice (some ⟨g3, 0, none⟩) N cp3) N (wordCells (render p.W p.H (Pf i)))) := ho3
      have HNR : Hid ((render p.W p.H (Pf i)).length = N) := by show _ = _; rw [HN.out]; exact length_render _ _ _
      have HSN : Hid (∀ {w' : World} {g cp : Nat}, w'.ownsRow 0 32 1 (.slice (some ⟨g, 0, none⟩) N cp) N (wordCells (render p.W p.H (Pf i))) → Seen w' (.slice (some ⟨g, 0, none⟩) N cp) (render p.W p.H (Pf i))) := fun h2 => by
        have hn := HNL.out
        rw [← HNR.out] at h2 ⊢
        exact Seen.of_row h2 (by rw [HNR.out]; omega)
      obtain ⟨w4, HW4⟩ : ∃ w4, Hid (w4 = w3.alloc (.cells #[.int .i64 p.W, .int .i64 p.H, .slice (some ⟨g2, 0, none⟩) N cap2] 54)) := ⟨_, rfl⟩
      have HB4 : Hid (w4.heap[w3.heap.size]? = some (.cells #[.int .i64 p.W, .int .i64 p.H, .slice (some ⟨g2, 0, none⟩) N cap2] 54 (0, 0))) := by show _ = _; rw [HW4.out]; exact heap_alloc_new w3 _
      have HF4 : Hid (Fr (fun _ => False) w3 w4) := by rw [HW4.out]; exact (Fr.refl _ _).alloc _
      clear hu hf2 hg2 hwl hcells hcs ho3
      go_wp2_with fail
      rw [← HW4.out]
      have HEQ : Hid (∀ w', Fr (fun _ => False) w4 w' → Calls Try.prog 32 #[.agg #[.int .i64 p.W, .int .i64 p.H, .slice (some ⟨g2, 0, none⟩) N cap2], .agg #[.int .i64 p.W, .int .i64 p.H, .slice (some ⟨g3, 0, none⟩) N cp3]] w' fun e w'' => e = .returned (.bool true) ∧ Fr (fun _ => False) w' w'') := fun w' f =>
        eqBitmap_same p.W p.H _ _ (render p.W p.H (Pf i)) w' (HSN.out (row_kept (row_kept HU.out HF4.out (fun _ _ h => h)) f (fun _ _ h => h))) (HSN.out (row_kept (row_kept HO3.out HF4.out (fun _ _ h => h)) f (fun _ _ h => h)))
      rw [← HF4.out.cell hBl (fun h => h)] at k0 k1 k2
      obtain ⟨j0, j1, j2, _⟩ := cell_of_three HB4.out
      go_region_with (first | (go_at_call 32; refine (HEQ.out _ (Fr.refl _ _).drew).mono ?_; rintro e w5 ⟨rfl, hf5⟩; have HF5 : Hid (Fr (fun _ => False) w4 w5) := (Fr.refl _ w4).drew.trans hf5 (fun _ _ h => h); clear hf5))
      all_goals
        have hb5 := (HF5.out.block _ (lt_of_block HB4.out) (fun h => h)).trans HB4.out
        obtain ⟨l0, l1, l2, _⟩ := cell_of_three hb5
        clear hb5 k0 k1 k2 j0 j1 j2
        go_wp2_with fail
        refine (over_any g2 cap2 N _ _ HNL.out (row_kept (row_kept HU.out HF4.out (fun _ _ h => h)) HF5.out (fun _ _ h => h))).mono ?_
        rintro e w6 ⟨rfl, hf6⟩
        have HF6 : Hid (Fr (fun _ => False) w2 w6) := ((HF2.out.trans HF4.out (fun _ _ h => h)).trans HF5.out (fun _ _ h => h)).trans hf6 (fun k hk e => by have := HG2.out; omega)
        clear hf6 l0 l1 l2
        go_wp2_with fail
        go_roundw
        case rel => exact ⟨i + 1, by omega, congrArg (Value.int .i64) (by omega), HF6.out⟩
        case measure => simp [intOf]; omega
    · have hie : i = pgs.length := by omega
      clear h1 hjq
      subst hie
      go_wp2_with fail
      refine (docPage_out d d pgs.length pv sv _ ss _ HDr.out.doc (Or.inr (by rw [ptrs_len]; omega))).mono ?_
      rintro e w3 ⟨rfl, hf3⟩
      have HF3 : Hid (Fr (fun _ => False) w2 w3) := HFr.out.trans hf3 (fun _ _ h => h)
      have HD3 : Hid (DU w1 (w3.alloc (.cells #[.int .i64 0, .int .i64 0, .slice none 0 0] 54)) d pgs Pf pv sv ss) := (HDr.out.still hf3).still ((Fr.refl _ _).alloc _)
      clear hf3
      go_wp2_with fail
      refine (docPage_out d d (-1) pv sv _ ss _ HD3.out.doc (Or.inl (by omega))).mono ?_
      rintro e w4 ⟨rfl, hf4⟩
      have HF4 : Hid (Fr (fun _ => False) w2 w4) := (HF3.out.alloc _).trans hf4 (fun _ _ h => h)
      clear hf4
      go_wp2_with fail
      go_ret
      exact ⟨rfl, HF4.out.alloc _⟩
end Go.Proofs.Ytpblenebmjmijaa
