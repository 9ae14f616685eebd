/- 'wakes': two pieces beside one another. -/
import Derived.Test.YtgpciopoionmeaaSp
namespace Go.Proofs.Ytgpciopoionmeaa
open Go.RowKit

def wkP : Nat → Nat → Bool := fun x y => decide (x = 2) || (decide (x = 0) && decide (y = 1))
theorem wk_render : render 3 2 wkP = [2305843009213693952, 11529215046068469760] := by decide +kernel
theorem wk_black {p : Nat × Nat} : Bk 3 2 wkP p ↔ (p.1 = 2 ∧ p.2 < 2) ∨ (p.1 = 0 ∧ p.2 = 1) := by
  unfold Bk wkP
  simp only [Bool.or_eq_true, Bool.and_eq_true, decide_eq_true_eq]
  omega
theorem wk_col {p q : Nat × Nat} (h : PC (Bk 3 2 wkP) p q) : p.1 = q.1 := by
  refine PC.inv (fun p => p.1) (fun a b ha hb hn => ?_) h
  have := wk_black.1 ha
  have := wk_black.1 hb
  have := hn.1
  have := hn.2.1
  show a.1 = b.1
  omega
theorem wk_down : PC (Bk 3 2 wkP) (2, 0) (2, 1) := PC.one (wk_black.2 (by simp)) (by unfold nb; simp) (wk_black.2 (by simp))
theorem wk_firsts : Firsts (Bk 3 2 wkP) [(2, 0), (0, 1)] := by
  refine ⟨by simp [ras], fun p => ?_⟩
  constructor
  · intro hp
    simp at hp
    rcases hp with rfl | rfl
    · refine ⟨wk_black.2 (by simp), fun q hq hr => ?_⟩
      have h1 := wk_col hq
      have h2 := wk_black.1 hq.right
      unfold ras at hr
      simp only at h1 hr
      omega
    · refine ⟨wk_black.2 (by simp), fun q hq hr => ?_⟩
      have h1 := wk_col hq
      have h2 := wk_black.1 hq.right
      unfold ras at hr
      simp only at h1 hr
      omega
  · rintro ⟨h1, h2⟩
    obtain ⟨x, y⟩ := p
    have h3 := wk_black.1 h1
    simp only at h3
    by_cases e : x = 2 ∧ y = 1
    · exfalso
      obtain ⟨rfl, rfl⟩ := e
      exact h2 (2, 0) wk_down.symm (by unfold ras; simp)
    · simp
      omega
theorem wk_p0 : IsPc (Bk 3 2 wkP) (2, 0) ⟨2, 0, 1, 2, fun _ _ => true⟩ := by
  have h0 : PC (Bk 3 2 wkP) (2, 0) (2, 0) := .refl (wk_black.2 (by simp))
  refine ⟨fun x y hx hy => ⟨fun _ => ?_, fun _ => rfl⟩, fun q hq => ?_, ⟨_, h0, rfl⟩, ⟨_, h0, rfl⟩, ⟨_, h0, rfl⟩, ⟨_, wk_down, rfl⟩⟩
  · simp only at hx hy
    obtain rfl : x = 0 := by omega
    rcases (show y = 0 ∨ y = 1 by omega) with rfl | rfl
    · exact h0
    · exact wk_down
  · have h1 := wk_col hq
    have h2 := wk_black.1 hq.right
    simp only at h1 ⊢
    omega
theorem wk_p1 : IsPc (Bk 3 2 wkP) (0, 1) ⟨0, 1, 1, 1, fun _ _ => true⟩ := by
  have h0 : PC (Bk 3 2 wkP) (0, 1) (0, 1) := .refl (wk_black.2 (by simp))
  refine ⟨fun x y hx hy => ⟨fun _ => ?_, fun _ => rfl⟩, fun q hq => ?_, ⟨_, h0, rfl⟩, ⟨_, h0, rfl⟩, ⟨_, h0, rfl⟩, ⟨_, h0, rfl⟩⟩
  · simp only at hx hy
    obtain rfl : x = 0 := by omega
    obtain rfl : y = 0 := by omega
    exact h0
  · have h1 := wk_col hq
    have h2 := wk_black.1 hq.right
    simp only at h1 ⊢
    omega
theorem wk_pcs {fs : List (Nat × Nat)} {L : List PV} (hf : Firsts (Bk 3 2 wkP) fs) (hp : Pcs (Bk 3 2 wkP) fs (L.map (·.1))) : ∃ q0 q1 : PV, L = [q0, q1] ∧ q0.1.X = 2 ∧ q0.1.Y = 0 ∧ q0.1.H = 2 ∧ q1.1.X = 0 ∧ q1.1.Y = 1 := by
  have e := hf.uniq wk_firsts
  subst e
  have hl := hp.length
  rw [List.length_map] at hl
  match L, hl with
  | [q0, q1], _ =>
    refine ⟨q0, q1, rfl, ?_⟩
    cases hp with
    | cons a t =>
      cases t with
      | cons b _ =>
        obtain ⟨x1, x2, _, x4, _⟩ := a.uniq wk_p0
        obtain ⟨y1, y2, _⟩ := b.uniq wk_p1
        exact ⟨x1, x2, x4, y1, y2⟩

set_option maxRecDepth 100000 in
set_option maxHeartbeats 4000000 in
theorem wakes_any (w : World) : Calls Try.prog 15 #[] w fun e w' => e = .returned (.bool true) ∧ Fr (fun _ => False) w w' := by
  obtain ⟨w0, hw0⟩ : ∃ w0, w0 = (w.alloc (.cells #[.int .u64 2305843009213693952, .int .u64 11529215046068469760] 62)).alloc (.cells #[.int .i64 3, .int .i64 2, .slice (some ⟨w.heap.size, 0, none⟩) 2 2] 25) := ⟨_, rfl⟩
  have HA : Hid (Fr (fun _ => False) w w0) := by rw [hw0]; exact ((Fr.refl _ _).alloc _).alloc _
  have HS : Hid (∀ w', Fr (fun _ => False) w0 w' → Seen w' (.slice (some ⟨w.heap.size, 0, none⟩) 2 2) [2305843009213693952, 11529215046068469760]) := fun w' hf => by
    refine Seen.kept ?_ hf
    refine ⟨_, _, rfl, by decide, fun _ => ⟨w.heap.size, 0, rfl, fun j hj => ?_⟩⟩
    rw [hw0]
    have hb : ((w.alloc (.cells #[.int .u64 2305843009213693952, .int .u64 11529215046068469760] 62)).alloc (.cells #[.int .i64 3, .int .i64 2, .slice (some ⟨w.heap.size, 0, none⟩) 2 2] 25)).heap[w.heap.size]? = some (.cells #[.int .u64 2305843009213693952, .int .u64 11529215046068469760] 62 (0, 0)) := blkUp (heap_alloc_new _ _) _
    obtain ⟨a, b, _⟩ := cell_of_two hb
    rcases (show j = 0 ∨ j = 1 by simp at hj; omega) with rfl | rfl
    · exact a
    · exact b
  have HBX : Hid (∀ w', Fr (fun _ => False) w0 w' → w'.cell? ⟨w.heap.size + 1, 0, none⟩ = some (.int .i64 3) ∧ w'.cell? ⟨w.heap.size + 1, 1, none⟩ = some (.int .i64 2) ∧ w'.cell? ⟨w.heap.size + 1, 2, none⟩ = some (.slice (some ⟨w.heap.size, 0, none⟩) 2 2)) := fun w' hf => by
    have hb : w0.heap[w.heap.size + 1]? = some (.cells #[.int .i64 3, .int .i64 2, .slice (some ⟨w.heap.size, 0, none⟩) 2 2] 25 (0, 0)) := by
      rw [hw0]
      have := heap_alloc_new (w.alloc (.cells #[.int .u64 2305843009213693952, .int .u64 11529215046068469760] 62)) (.cells #[.int .i64 3, .int .i64 2, .slice (some ⟨w.heap.size, 0, none⟩) 2 2] 25)
      rwa [World.size_alloc] at this
    obtain ⟨c0, c1, c2, _⟩ := cell_of_three (blkOld hf hb)
    exact ⟨c0, c1, c2⟩
  have HOF : Hid (Calls Try.prog 11 #[.agg #[.int .i64 3, .int .i64 2, .slice (some ⟨w.heap.size, 0, none⟩) 2 2]] w0 fun e w' => ∃ rv L fs, e = .returned (.tuple #[rv, .int .i64 0]) ∧ OwnPs w' w0.heap.size rv L ∧ Firsts (Bk 3 2 wkP) fs ∧ Pcs (Bk 3 2 wkP) fs (L.map (·.1)) ∧ Fr (fun _ => False) w0 w') :=
    cof_ok 3 2 _ wkP w0 ⟨by rw [wk_render]; exact HS.out _ (Fr.refl _ _), fun ao n c e => by simp only [Value.slice.injEq] at e; obtain ⟨_, rfl, rfl⟩ := e; unfold maxLen; omega, by decide, by decide, by decide⟩
  go_enter Try.func15, Try.ntmps15
  go_wp2_with fail
  rw [← hw0]
  clear hw0
  refine HOF.out.mono ?_
  rintro e w1 ⟨rv, L, fs, rfl, ho1, hfs, hps, hf1⟩
  have HO1 : Hid (OwnPs w1 w0.heap.size rv L) := ho1
  have HB : Hid (Calls Try.prog 18 #[rv, .int .i64 3, .int .i64 2] w1 fun e w' => ∃ g cap, e = .returned (.tuple #[.agg #[.int .i64 3, .int .i64 2, .slice (some ⟨g, 0, none⟩) 2 cap], .int .i64 0]) ∧ RowAt w' g cap 3 2 wkP ∧ w1.heap.size ≤ g ∧ Fr (fun _ => False) w1 w') := cback_of w1 (by decide) (by decide) (by decide) hfs hps ho1
  obtain ⟨q0, q1, rfl, x0, y0, z0, x1, y1⟩ := wk_pcs hfs hps
  obtain ⟨gL, cL, rfl, _⟩ := row_form ho1.own (by simp)
  have HF1 : Hid (Fr (fun _ => False) w0 w1) := hf1
  have HLC : Hid (∀ w', Fr (fun _ => False) w1 w' → w'.cell? ⟨gL, 0, none⟩ = some (.int .i64 2) ∧ w'.cell? ⟨gL, 1, none⟩ = some (.int .i64 0) ∧ w'.cell? ⟨gL, 3, none⟩ = some (.int .i64 2) ∧ w'.cell? ⟨gL, 5, none⟩ = some (.int .i64 0) ∧ w'.cell? ⟨gL, 6, none⟩ = some (.int .i64 1)) := fun w' hf => by
    have h := row_kept ho1.own hf (fun _ _ h => h)
    obtain ⟨a0, a1, _, a3, _⟩ := cellsPs_at [q0, q1] 0 (by simp)
    obtain ⟨b0, b1, _⟩ := cellsPs_at [q0, q1] 1 (by simp)
    rw [← h.cellAt _ (by simp)] at a0 a1 a3 b0 b1
    simp only [List.getElem_cons_zero, List.getElem_cons_succ, x0, y0, z0, x1, y1] at a0 a1 a3 b0 b1
    exact ⟨a0, a1, a3, b0, b1⟩
  clear ho1 hfs hps hf1 x0 y0 z0 x1 y1 HO1 HOF
  go_wp2_with fail
  refine HB.out.mono ?_
  rintro e w2 ⟨g2, cap2, rfl, hr2, _, hf2⟩
  have HF2 : Hid (Fr (fun _ => False) w1 w2) := hf2
  have HS2 : Hid (Seen w2 (.slice (some ⟨g2, 0, none⟩) 2 cap2) [2305843009213693952, 11529215046068469760]) := by
    have := hr2.seen (by decide)
    rwa [wk_render] at this
  have HA2 : Hid (Fr (fun _ => False) w2 (w2.alloc (.cells #[.int .i64 3, .int .i64 2, .slice (some ⟨g2, 0, none⟩) 2 cap2] 25))) := (Fr.refl _ _).alloc _
  have HFA : Hid (Fr (fun _ => False) w1 (w2.alloc (.cells #[.int .i64 3, .int .i64 2, .slice (some ⟨g2, 0, none⟩) 2 cap2] 25))) := hf2.alloc _
  clear hr2 hf2
  obtain ⟨l0, l1, l3, l5, l6⟩ := HLC.out _ HFA.out
  obtain ⟨k0, k1, k2⟩ := HBX.out _ (HF1.out.trans HFA.out (fun _ _ h => h))
  have HEQ : Hid (Calls Try.prog 20 #[.agg #[.int .i64 3, .int .i64 2, .slice (some ⟨w.heap.size, 0, none⟩) 2 2], .agg #[.int .i64 3, .int .i64 2, .slice (some ⟨g2, 0, none⟩) 2 cap2]] (w2.alloc (.cells #[.int .i64 3, .int .i64 2, .slice (some ⟨g2, 0, none⟩) 2 cap2] 25)) fun e w'' => e = .returned (.bool true) ∧ Fr (fun _ => False) (w2.alloc (.cells #[.int .i64 3, .int .i64 2, .slice (some ⟨g2, 0, none⟩) 2 cap2] 25)) w'') := eqBitmap_same 3 2 _ _ _ _ (HS.out _ (HF1.out.trans HFA.out (fun _ _ h => h))) (HS2.out.kept HA2.out)
  go_wp2_with fail
  refine HEQ.out.mono ?_
  rintro e w3 ⟨rfl, hf3⟩
  have HF3 : Hid (Fr (fun _ => False) w w3) := ((HA.out.trans HF1.out (fun _ _ h => h)).trans HFA.out (fun _ _ h => h)).trans hf3 (fun _ _ h => h)
  clear hf3
  go_wp2_with fail
  go_ret
  exact ⟨rfl, HF3.out⟩

end Go.Proofs.Ytgpciopoionmeaa
