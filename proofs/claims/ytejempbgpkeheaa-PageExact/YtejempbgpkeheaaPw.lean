/- 'wakes': a page of two stripes. -/
import Derived.Test.YtejempbgpkeheaaPe
import Derived.Test.YtejempbgpkeheaaEb
namespace Go.Proofs.Ytejempbgpkeheaa
open Go.RowKit

def wkB : Nat → Nat → Bool := fun _ _ => true
def wkP : Nat → Nat → Bool := addPix 0 (fun _ _ => decide (0 = 1)) wkB 1 1 0 0
theorem wk_one : render 1 1 wkB = [9223372036854775808] := by decide +kernel
theorem wk_all : render 3 3 wkP = [9223372036854775808, 0, 0] := by decide +kernel

theorem RowAt.bm {w : World} {g cap W H : Nat} {P : Nat → Nat → Bool} (h : RowAt w g cap W H P) (h1 : 1 ≤ W) (h2 : 1 ≤ H) (h3 : W * H ≤ 1048576) : Bm w (.slice (some ⟨g, 0, none⟩) (H * stride W) cap) W H P := by
  obtain ⟨_, _, f3⟩ := size_facts h1 h2 h3
  refine ⟨h.seen f3, fun ao n c e => ?_, h1, h2, h3⟩
  simp only [Value.slice.injEq] at e
  obtain ⟨_, rfl, rfl⟩ := e
  exact of_slice h

theorem seen_lit {w : World} {g : Nat} {l : List Nat} {t : TypeId} (h : w.heap[g]? = some (.cells (wordCells l).toArray t (0, 0))) (hl : l.length ≤ 1000) : Seen w (.slice (some ⟨g, 0, none⟩) l.length l.length) l := by
  refine ⟨_, _, rfl, by omega, fun _ => ⟨g, 0, rfl, fun j hj => ?_⟩⟩
  simp [World.cell?, h, hj, wordCells]

theorem wk_c1 : (wordCells [9223372036854775808]).toArray = #[.int .u64 9223372036854775808] := by simp [wordCells]
theorem wk_c3 : (wordCells [9223372036854775808, 0, 0]).toArray = #[.int .u64 9223372036854775808, .int .u64 0, .int .u64 0] := by simp [wordCells]
theorem wk_seen1 {w : World} {gv : Nat} {t : TypeId} (hv : w.heap[gv]? = some (.cells #[.int .u64 9223372036854775808] t (0, 0))) : Seen w (.slice (some ⟨gv, 0, none⟩) 1 1) [9223372036854775808] := by
  rw [← wk_c1] at hv
  exact seen_lit hv (by simp)
theorem wk_seen3 {w : World} {gv : Nat} {t : TypeId} (hv : w.heap[gv]? = some (.cells #[.int .u64 9223372036854775808, .int .u64 0, .int .u64 0] t (0, 0))) : Seen w (.slice (some ⟨gv, 0, none⟩) 3 3) [9223372036854775808, 0, 0] := by
  rw [← wk_c3] at hv
  exact seen_lit hv (by simp)
theorem wk_add (w : World) (p b g cap gv : Nat) (hp : PgAt w p b g cap 3 3 0 2 0 (fun _ _ => decide (0 = 1))) (hv : w.heap[gv]? = some (.cells #[.int .u64 9223372036854775808] 65 (0, 0))) : Calls Try.prog 11 #[.pointer (some ⟨p, 0, none⟩), .int .i64 0, .int .i64 0, .int .i64 0, .agg #[.int .i64 1, .int .i64 1, .slice (some ⟨gv, 0, none⟩) 1 1]] w fun e w' => e = .returned (.int .i64 0) ∧ PgAt w' p b g cap 3 3 0 2 0 wkP ∧ Fr (fun k => k = g) w w' := by
  have hs : Seen w (.slice (some ⟨gv, 0, none⟩) 1 1) (render 1 1 wkB) := by rw [wk_one]; exact wk_seen1 hv
  have hb : Bm w (.slice (some ⟨gv, 0, none⟩) 1 1) 1 1 wkB := by
    refine ⟨hs, fun ao n c e => ?_, by omega, by omega, by omega⟩
    simp only [Value.slice.injEq] at e
    obtain ⟨_, rfl, rfl⟩ := e
    exact ⟨Nat.le_refl _, by unfold maxLen; omega⟩
  have h := add_ok (op := 0) 0 0 1 1 (.slice (some ⟨gv, 0, none⟩) 1 1) wkB w hp (by omega) hb (by constructor <;> omega) (by constructor <;> omega) (by unfold holdOK; simp)
  exact h
theorem wk_end (w : World) (p b g cap : Nat) (hp : PgAt w p b g cap 3 3 0 2 3 wkP) : Calls Try.prog 16 #[.pointer (some ⟨p, 0, none⟩)] w fun e w' => ∃ g2 cap2, e = .returned (.tuple #[.agg #[.int .i64 3, .int .i64 3, .slice (some ⟨g2, 0, none⟩) 3 cap2], .int .i64 0]) ∧ Seen w' (.slice (some ⟨g2, 0, none⟩) 3 cap2) [9223372036854775808, 0, 0] ∧ Fr (fun k => k = p) w w' ∧ w.heap.size ≤ g2 := by
  refine (end_ok w hp (Or.inr rfl)).mono ?_
  rintro e w' ⟨g2, cap2, he, hr, -, hf, hg⟩
  have h3 : 3 * stride 3 = 3 := by decide
  have hs := hr.seen (by omega)
  rw [wk_all, h3] at hs
  rw [h3] at he
  exact ⟨g2, cap2, he, hs, hf, hg⟩

set_option maxRecDepth 100000 in
set_option maxHeartbeats 1000000 in
theorem wakes_any (w : World) : Calls Try.prog 8 #[] w fun e w' => e = .returned (.bool true) ∧ Fr (fun _ => False) w w' := by
  have HN : Hid (∀ w : World, Calls Try.prog 6 #[.agg #[.int .i64 3, .int .i64 3, .int .i64 0, .int .i64 2]] w fun e w' => ∃ p b g cap, e = .returned (.tuple #[.pointer (some ⟨p, 0, none⟩), .int .i64 0]) ∧ PgAt w' p b g cap 3 3 0 2 0 (fun _ _ => decide (0 = 1)) ∧ Fr (fun _ => False) w w' ∧ w.heap.size ≤ p ∧ w.heap.size ≤ b ∧ w.heap.size ≤ g) := fun w => pnew_ok 3 3 0 2 w (by omega) (by omega) (by omega) (by omega) (by omega)
  have HA : Hid (∀ (w : World) (p b g cap gv : Nat), PgAt w p b g cap 3 3 0 2 0 (fun _ _ => decide (0 = 1)) → w.heap[gv]? = some (.cells #[.int .u64 9223372036854775808] 65 (0, 0)) → Calls Try.prog 11 #[.pointer (some ⟨p, 0, none⟩), .int .i64 0, .int .i64 0, .int .i64 0, .agg #[.int .i64 1, .int .i64 1, .slice (some ⟨gv, 0, none⟩) 1 1]] w fun e w' => e = .returned (.int .i64 0) ∧ PgAt w' p b g cap 3 3 0 2 0 wkP ∧ Fr (fun k => k = g) w w') := wk_add
  have HS1 : Hid (∀ (w : World) (p b g cap : Nat), PgAt w p b g cap 3 3 0 2 0 wkP → Calls Try.prog 14 #[.pointer (some ⟨p, 0, none⟩), .int .i64 2] w fun e w' => e = .returned (.int .i64 151) ∧ ∃ k, w' = w.drewN k) := fun w p b g cap hp => stripe_no hp.blk 2 (by omega) (by omega) (by omega) (by unfold stripeOK lastRow; refine decide_eq_false ?_; omega)
  have HS2 : Hid (∀ (w : World) (p b g cap : Nat), PgAt w p b g cap 3 3 0 2 0 wkP → Calls Try.prog 14 #[.pointer (some ⟨p, 0, none⟩), .int .i64 1] w fun e w' => e = .returned (.int .i64 0) ∧ PgAt w' p b g cap 3 3 0 2 2 wkP ∧ Fr (fun k => k = p) w w') := fun w p b g cap hp => stripe_ok hp 1 (by unfold stripeOK lastRow; refine decide_eq_true ?_; omega)
  have HS3 : Hid (∀ (w : World) (p b g cap : Nat), PgAt w p b g cap 3 3 0 2 2 wkP → Calls Try.prog 14 #[.pointer (some ⟨p, 0, none⟩), .int .i64 2] w fun e w' => e = .returned (.int .i64 0) ∧ PgAt w' p b g cap 3 3 0 2 3 wkP ∧ Fr (fun k => k = p) w w') := fun w p b g cap hp => stripe_ok hp 2 (by unfold stripeOK lastRow; refine decide_eq_true ?_; omega)
  have HX : Hid (∀ (w : World) (p b g cap : Nat), PgAt w p b g cap 3 3 0 2 2 wkP → Calls Try.prog 20 #[.pointer (some ⟨p, 0, none⟩)] w fun e w' => e = .returned (.int .i64 2) ∧ w' = w) := fun w p b g cap hp => next_any hp.blk
  have HE : Hid (∀ (w : World) (p b g cap : Nat), PgAt w p b g cap 3 3 0 2 3 wkP → Calls Try.prog 16 #[.pointer (some ⟨p, 0, none⟩)] w fun e w' => ∃ g2 cap2, e = .returned (.tuple #[.agg #[.int .i64 3, .int .i64 3, .slice (some ⟨g2, 0, none⟩) 3 cap2], .int .i64 0]) ∧ Seen w' (.slice (some ⟨g2, 0, none⟩) 3 cap2) [9223372036854775808, 0, 0] ∧ Fr (fun k => k = p) w w' ∧ w.heap.size ≤ g2) := wk_end
  have HQ : Hid (∀ (w : World) (v u : Value) (l : List Nat), Seen w v l → Seen w u l → Calls Try.prog 18 #[.agg #[.int .i64 3, .int .i64 3, v], .agg #[.int .i64 3, .int .i64 3, u]] w fun e w' => e = .returned (.bool true) ∧ Fr (fun _ => False) w w') := fun w v u l h1 h2 => (eqBitmap_any 3 3 3 3 v u l l w h1 h2).mono fun e w' ⟨he, hf⟩ => ⟨by rw [he]; simp, hf⟩
  go_enter Try.func8, Try.ntmps8
  go_wp2_with fail
  refine (HN.out _).mono ?_
  rintro e w1 ⟨p, b, g, cap, rfl, hp1, hf1, n1, n2, n3⟩
  have HP1 : Hid (PgAt w1 p b g cap 3 3 0 2 0 (fun _ _ => decide (0 = 1))) := hp1
  have HF1 : Hid (Fr (fun _ => False) w w1 ∧ w.heap.size ≤ p ∧ w.heap.size ≤ b ∧ w.heap.size ≤ g) := ⟨hf1, n1, n2, n3⟩
  clear hp1 hf1 n1 n2 n3
  go_wp2_with fail
  refine (HA.out _ p b g cap w1.heap.size (HP1.out.kept (S := fun _ => False) ((Fr.refl _ _).alloc _) (fun h => h) (fun h => h) (fun h => h)) (heap_alloc_new _ _)).mono ?_
  rintro e w2 ⟨rfl, hp2, hf2⟩
  have HP2 : Hid (PgAt w2 p b g cap 3 3 0 2 0 wkP) := hp2
  have HF2 : Hid (Fr (fun _ => False) w w2) := (HF1.out.1.alloc _).trans hf2 (fun i hi e => by have := HF1.out; omega)
  clear hp2 hf2
  go_wp2_with fail
  refine (HS1.out _ p b g cap HP2.out).mono ?_
  rintro e w3 ⟨rfl, k, rfl⟩
  go_wp2_with fail
  refine (HS2.out _ p b g cap (HP2.out.kept (S := fun _ => False) ((Fr.refl _ _).drewN _) (fun h => h) (fun h => h) (fun h => h))).mono ?_
  rintro e w3 ⟨rfl, hp3, hf3⟩
  have HP3 : Hid (PgAt w3 p b g cap 3 3 0 2 2 wkP) := hp3
  have HF3 : Hid (Fr (fun _ => False) w w3) := (HF2.out.drewN _).trans hf3 (fun i hi e => by have := HF1.out; omega)
  clear hp3 hf3
  go_wp2_with fail
  refine (HX.out _ p b g cap HP3.out).mono ?_
  rintro e w4 ⟨rfl, rfl⟩
  go_wp2_with fail
  refine (HS3.out _ p b g cap HP3.out).mono ?_
  rintro e w5 ⟨rfl, hp5, hf5⟩
  have HP5 : Hid (PgAt w5 p b g cap 3 3 0 2 3 wkP) := hp5
  have HF5 : Hid (Fr (fun _ => False) w w5) := HF3.out.trans hf5 (fun i hi e => by have := HF1.out; omega)
  clear hp5 hf5
  go_wp2_with fail
  refine (HE.out _ p b g cap HP5.out).mono ?_
  rintro e w6 ⟨g2, cap2, rfl, hs6, hf6, hg6⟩
  have HS6 : Hid (Seen w6 (.slice (some ⟨g2, 0, none⟩) 3 cap2) [9223372036854775808, 0, 0]) := hs6
  have HF6 : Hid (Fr (fun _ => False) w w6) := HF5.out.trans hf6 (fun i hi e => by have := HF1.out; omega)
  clear hs6 hf6 hg6
  have HB6 := heap_alloc_new w6 (.cells #[.int .i64 3, .int .i64 3, .slice (some ⟨g2, 0, none⟩) 3 cap2] 38)
  obtain ⟨m0, m1, m2, mf⟩ := cell_of_three HB6
  clear HB6
  go_wp2_with fail
  refine (HQ.out _ _ _ _ (HS6.out.kept (((Fr.refl (fun _ => False) _).alloc _).alloc _)) (wk_seen3 (heap_new1 _ _ _))).mono ?_
  rintro e w7 ⟨rfl, hf7⟩
  have HF7 : Hid (Fr (fun _ => False) w w7) := ((HF6.out.alloc _).alloc _).trans hf7 (fun _ _ h => h)
  clear hf7
  go_wp2_with fail
  go_ret
  exact ⟨rfl, HF7.out⟩

end Go.Proofs.Ytejempbgpkeheaa
