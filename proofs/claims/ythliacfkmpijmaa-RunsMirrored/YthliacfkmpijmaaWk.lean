/- 'wakes'. -/
import Derived.Test.YthliacfkmpijmaaEr
import Derived.Test.YthliacfkmpijmaaBk
namespace Go.Proofs.Ythliacfkmpijmaa
open Go.RowKit

/-- Runs as whole numbers. -/
def up (l : List (Nat × Nat)) : List (Int × Int) := l.map fun r => ((r.1 : Int), (r.2 : Int))
theorem length_up (l : List (Nat × Nat)) : (up l).length = l.length := by simp [up]
theorem up_get {l : List (Nat × Nat)} {j : Nat} (h : j < l.length) : (up l)[j]?.getD (0, 0) = ((l[j].1 : Int), (l[j].2 : Int)) := by
  unfold up
  rw [List.getElem?_map, List.getElem?_eq_getElem h]; rfl
theorem runCells_get : ∀ (l : List (Nat × Nat)) {j : Nat} (h : j < l.length), (runCells l)[j * 2]? = some (.int .i64 (l[j].1 : Int)) ∧ (runCells l)[j * 2 + 1]? = some (.int .i64 (l[j].2 : Int))
  | r :: t, 0, _ => ⟨rfl, rfl⟩
  | r :: t, j + 1, h => by
    have := runCells_get t (j := j) (by simpa using h)
    have e : runCells (r :: t) = .int .i64 (r.1 : Int) :: .int .i64 (r.2 : Int) :: runCells t := rfl
    rw [e, show (j + 1) * 2 = j * 2 + 1 + 1 by omega]
    simpa using this
theorem SeenR.of_own {w : World} {base : Nat} {v : Value} {l : List (Nat × Nat)} (h : w.ownsRow base 35 2 v l.length (runCells l)) (hl : l.length ≤ 9223372036854775807) : SeenR w v (up l) := by
  rcases h.2 with ⟨rfl, e⟩ | ⟨g, cap, cur, rfl, _⟩
  · have : l = [] := List.eq_nil_of_length_eq_zero e
    subst this
    exact ⟨none, 0, rfl, by simp [up], fun hn => absurd rfl hn⟩
  · refine ⟨some ⟨g, 0, none⟩, cap, by rw [length_up], by rw [length_up]; exact hl, fun _ => ⟨g, 0, rfl, fun j hj => ?_⟩⟩
    rw [length_up] at hj
    obtain ⟨h0, h1⟩ := runCells_get l hj
    rw [up_get hj, Nat.zero_add, h.cellAt _ (by omega), h.cellAt _ (by omega)]
    exact ⟨h0, h1⟩
/-- The rows of a bitmap, as they are seen. -/
def upRows (H : Nat) (L : Nat → List (Nat × Nat)) : List (List (Int × Int)) := (List.range H).map fun y => up (L y)
theorem length_upRows (H : Nat) (L : Nat → List (Nat × Nat)) : (upRows H L).length = H := by simp [upRows]
theorem upRows_get {H : Nat} {L : Nat → List (Nat × Nat)} {y : Nat} (h : y < H) : (upRows H L)[y]?.getD [] = up (L y) := by
  unfold upRows
  rw [List.getElem?_map, List.getElem?_range h]; rfl
theorem OwnRR.seen {w : World} {base g H : Nat} {L : Nat → List (Nat × Nat)} {vs : List Value} (h : OwnRR w base g H H L vs) (hH : H ≤ 9223372036854775807) (hl : ∀ y, y < H → (L y).length ≤ 9223372036854775807) : SeenRR w (.slice (some ⟨g, 0, none⟩) H H) (upRows H L) := by
  refine ⟨some ⟨g, 0, none⟩, H, by rw [length_upRows], by rw [length_upRows]; exact hH, fun _ => ⟨g, 0, rfl, fun y hy => ?_⟩⟩
  rw [length_upRows] at hy
  have hlen := h.own.1
  refine ⟨_, by rw [Nat.zero_add, h.own.cellAt y (by omega), List.getElem?_eq_getElem (by omega)], ?_⟩
  rw [upRows_get hy]
  have := h.at_ y hy
  rw [List.getElem?_eq_getElem (by omega)] at this
  exact SeenR.of_own this (hl y hy)
theorem rl_len (f : Nat → Bool) (n : Nat) : (rl f n).length ≤ n + 1 := by
  have := apart_len (rl_apart f n) (by omega); omega

def wkP : Nat → Nat → Bool := fun x _ => x == 1 || x == 2 || x == 4
theorem wk_render : render 5 1 wkP = [7493989779944505344] := by decide +kernel
theorem wk_rl : upRows 1 (fun y => rl (fun x => wkP x y) 5) = [[(1, 3), (4, 5)]] := by decide +kernel
theorem wk_ok : okB 5 [[(1, 3), (4, 5)]] = true := by decide +kernel
theorem wk_pix : render 5 1 (pixL [[(1, 3), (4, 5)]]) = [7493989779944505344] := by decide +kernel

/-- A literal of rows. -/
theorem seen_lit {w : World} {g g' : Nat} (h : w.heap[g]? = some (.cells #[.int .i64 1, .int .i64 3, .int .i64 4, .int .i64 5] 35 (0, 0))) (h' : w.heap[g']? = some (.cells #[.slice (some ⟨g, 0, none⟩) 2 2] 33 (0, 0))) : SeenRR w (.slice (some ⟨g', 0, none⟩) 1 1) [[(1, 3), (4, 5)]] := by
  refine ⟨_, _, rfl, by decide, fun _ => ⟨g', 0, rfl, fun j hj => ?_⟩⟩
  have : j = 0 := by simpa using hj
  subst this
  refine ⟨.slice (some ⟨g, 0, none⟩) 2 2, by simp [World.cell?, h'], ?_⟩
  refine ⟨_, _, rfl, by decide, fun _ => ⟨g, 0, rfl, fun j hj => ?_⟩⟩
  have : j = 0 ∨ j = 1 := by simp at hj; omega
  rcases this with rfl | rfl <;> simp [World.cell?, h]

set_option maxRecDepth 100000 in
set_option maxHeartbeats 4000000 in
theorem wakes_any (w : World) :
    Calls Try.prog 13 #[] w fun e w' => e = .returned (.bool true) ∧ Fr (fun _ => False) w w' := by
  obtain ⟨w0, hw0⟩ : ∃ w0, w0 = (w.alloc (.cells #[.int .u64 7493989779944505344] 54)).alloc (.cells #[.int .i64 5, .int .i64 1, .slice (some ⟨w.heap.size, 0, none⟩) 1 1] 25) := ⟨_, rfl⟩
  have HA : Hid (Fr (fun _ => False) w w0) := by rw [hw0]; exact ((Fr.refl _ _).alloc _).alloc _
  have HW : Hid (w0.heap[w.heap.size]? = some (.cells #[.int .u64 7493989779944505344] 54 (0, 0))) := by show _ = _; rw [hw0]; exact blkUp (heap_alloc_new _ _) _
  have HB : Hid (w0.heap[w.heap.size + 1]? = some (.cells #[.int .i64 5, .int .i64 1, .slice (some ⟨w.heap.size, 0, none⟩) 1 1] 25 (0, 0))) := by
    show _ = _
    rw [hw0]
    have := heap_alloc_new (w.alloc (.cells #[.int .u64 7493989779944505344] 54)) (.cells #[.int .i64 5, .int .i64 1, .slice (some ⟨w.heap.size, 0, none⟩) 1 1] 25)
    rwa [World.size_alloc] at this
  have HS : Hid (∀ w', Fr (fun _ => False) w0 w' → Seen w' (.slice (some ⟨w.heap.size, 0, none⟩) 1 1) [7493989779944505344]) := fun w' f => by
    have hb := blkOld f HW.out
    refine ⟨_, _, rfl, by decide, fun _ => ⟨w.heap.size, 0, rfl, fun j hj => ?_⟩⟩
    have : j = 0 := by simpa using hj
    subst this
    simp [World.cell?, hb]
  have HOF : Hid (Calls Try.prog 10 #[.agg #[.int .i64 5, .int .i64 1, .slice (some ⟨w.heap.size, 0, none⟩) 1 1]] w0 fun e w' => ∃ g vs, e = .returned (.tuple #[.slice (some ⟨g, 0, none⟩) 1 1, .int .i64 0]) ∧ OwnRR w' w0.heap.size g 1 1 (fun y => rl (fun x => wkP x y) 5) vs ∧ Fr (fun _ => False) w0 w') :=
    of_ok 5 1 _ wkP w0 ⟨by rw [wk_render]; exact HS.out _ (Fr.refl _ _), fun ao n c e => by cases e; exact ⟨Nat.le_refl _, by decide⟩, by decide, by decide, by decide⟩
  have HBX : Hid (∀ w', Fr (fun _ => False) w0 w' → w'.cell? ⟨w.heap.size + 1, 0, none⟩ = some (.int .i64 5) ∧ w'.cell? ⟨w.heap.size + 1, 1, none⟩ = some (.int .i64 1) ∧ w'.cell? ⟨w.heap.size + 1, 2, none⟩ = some (.slice (some ⟨w.heap.size, 0, none⟩) 1 1)) := fun w' f => by
    obtain ⟨c0, c1, c2, _⟩ := cell_of_three (blkOld f HB.out)
    exact ⟨c0, c1, c2⟩
  go_enter Try.func13, Try.ntmps13
  go_wp2_with fail
  rw [← hw0]
  clear hw0
  refine HOF.out.mono ?_
  rintro e w1 ⟨g, vs, rfl, ho1, hf1⟩
  have HF1 : Hid (Fr (fun _ => False) w0 w1) := hf1
  have HO1 : Hid (∀ w', Fr (fun _ => False) w1 w' → SeenRR w' (.slice (some ⟨g, 0, none⟩) 1 1) [[(1, 3), (4, 5)]]) := fun w' f => by
    have := (ho1.kept f (fun _ _ h => h)).seen (by decide) (fun y _ => by have := rl_len (fun x => wkP x y) 5; omega)
    rwa [wk_rl] at this
  clear ho1 hf1 HOF
  obtain ⟨w2, hw2⟩ : ∃ w2, w2 = (w1.alloc (.cells #[.int .i64 1, .int .i64 3, .int .i64 4, .int .i64 5] 35)).alloc (.cells #[.slice (some ⟨w1.heap.size, 0, none⟩) 2 2] 33) := ⟨_, rfl⟩
  have HF2 : Hid (Fr (fun _ => False) w1 w2) := by rw [hw2]; exact ((Fr.refl _ _).alloc _).alloc _
  have HSL : Hid (∀ w', Fr (fun _ => False) w2 w' → SeenRR w' (.slice (some ⟨w1.heap.size + 1, 0, none⟩) 1 1) [[(1, 3), (4, 5)]]) := fun w' f => by
    refine SeenRR.kept ?_ f
    rw [hw2]
    refine seen_lit (g := w1.heap.size) (blkUp (heap_alloc_new _ _) _) ?_
    have := heap_alloc_new (w1.alloc (.cells #[.int .i64 1, .int .i64 3, .int .i64 4, .int .i64 5] 35)) (.cells #[.slice (some ⟨w1.heap.size, 0, none⟩) 2 2] 33)
    rwa [World.size_alloc] at this
  have HBK : Hid (Calls Try.prog 15 #[.slice (some ⟨w1.heap.size + 1, 0, none⟩) 1 1, .int .i64 5] w2 fun e w' => ∃ g cap, e = .returned (.tuple #[.agg #[.int .i64 5, .int .i64 1, .slice (some ⟨g, 0, none⟩) 1 cap], .int .i64 0]) ∧ Seen w' (.slice (some ⟨g, 0, none⟩) 1 cap) [7493989779944505344] ∧ Fr (fun _ => False) w2 w') :=
    (back_any _ _ 5 w2 (HSL.out _ (Fr.refl _ _)) (by decide)).mono (fun e w' h => by
      obtain ⟨hy, _, hf⟩ := h
      obtain ⟨g, cap, he, hr, _⟩ := hy wk_ok
      refine ⟨g, cap, he, ?_, hf⟩
      have := hr.seen (by decide +kernel)
      rw [show render (Int.toNat 5) [[((1 : Int), (3 : Int)), (4, 5)]].length (pixL [[(1, 3), (4, 5)]]) = [7493989779944505344] from wk_pix] at this
      exact this)
  go_wp2_with fail
  rw [← hw2]
  clear hw2
  refine HBK.out.mono ?_
  rintro e w3 ⟨g3, cap3, rfl, hs3, hf3⟩
  have HS3 : Hid (∀ w', Fr (fun _ => False) w3 w' → Seen w' (.slice (some ⟨g3, 0, none⟩) 1 cap3) [7493989779944505344]) := fun w' f => hs3.kept f
  have HF3 : Hid (Fr (fun _ => False) w1 w3) := HF2.out.trans hf3 (fun _ _ h => h)
  clear hs3 hf3 HBK HSL HF2
  obtain ⟨w4, hw4⟩ : ∃ w4, w4 = (((w3.alloc (.cells #[.int .i64 5, .int .i64 1, .slice (some ⟨g3, 0, none⟩) 1 cap3] 25)).alloc (.cells #[.int .i64 1, .int .i64 3, .int .i64 4, .int .i64 5] 35)).alloc (.cells #[.slice (some ⟨w3.heap.size + 1, 0, none⟩) 2 2] 33)) := ⟨_, rfl⟩
  have HF4 : Hid (Fr (fun _ => False) w3 w4) := by rw [hw4]; exact (((Fr.refl _ _).alloc _).alloc _).alloc _
  have HSL : Hid (∀ w', Fr (fun _ => False) w4 w' → SeenRR w' (.slice (some ⟨w3.heap.size + 1 + 1, 0, none⟩) 1 1) [[(1, 3), (4, 5)]]) := fun w' f => by
    refine SeenRR.kept ?_ f
    rw [hw4]
    refine seen_lit (g := w3.heap.size + 1) (blkUp ?_ _) ?_
    · have := heap_alloc_new (w3.alloc (.cells #[.int .i64 5, .int .i64 1, .slice (some ⟨g3, 0, none⟩) 1 cap3] 25)) (.cells #[.int .i64 1, .int .i64 3, .int .i64 4, .int .i64 5] 35)
      rwa [World.size_alloc] at this
    · have := heap_alloc_new ((w3.alloc (.cells #[.int .i64 5, .int .i64 1, .slice (some ⟨g3, 0, none⟩) 1 cap3] 25)).alloc (.cells #[.int .i64 1, .int .i64 3, .int .i64 4, .int .i64 5] 35)) (.cells #[.slice (some ⟨w3.heap.size + 1, 0, none⟩) 2 2] 33)
      rwa [World.size_alloc, World.size_alloc] at this
  have HBY : Hid (∀ w', Fr (fun _ => False) w4 w' → w'.cell? ⟨w3.heap.size, 0, none⟩ = some (.int .i64 5) ∧ w'.cell? ⟨w3.heap.size, 1, none⟩ = some (.int .i64 1) ∧ w'.cell? ⟨w3.heap.size, 2, none⟩ = some (.slice (some ⟨g3, 0, none⟩) 1 cap3)) := fun w' f => by
    have hb : w4.heap[w3.heap.size]? = some (.cells #[.int .i64 5, .int .i64 1, .slice (some ⟨g3, 0, none⟩) 1 cap3] 25 (0, 0)) := by rw [hw4]; exact blkUp (blkUp (heap_alloc_new _ _) _) _
    obtain ⟨c0, c1, c2, _⟩ := cell_of_three (blkOld f hb)
    exact ⟨c0, c1, c2⟩
  have HEB : Hid (∀ w', Fr (fun _ => False) w0 w' → Fr (fun _ => False) w3 w' → Calls Try.prog 17 #[.agg #[.int .i64 5, .int .i64 1, .slice (some ⟨w.heap.size, 0, none⟩) 1 1], .agg #[.int .i64 5, .int .i64 1, .slice (some ⟨g3, 0, none⟩) 1 cap3]] w' fun e w'' => e = .returned (.bool true) ∧ Fr (fun _ => False) w' w'') := fun w' f f3 => eqBitmap_same 5 1 _ _ _ w' (HS.out _ f) (HS3.out _ f3)
  go_wp2_with fail
  rw [← hw4]
  clear hw4
  refine (eqRuns_same _ _ _ _ (HO1.out _ (HF3.out.trans HF4.out (fun _ _ h => h))) (HSL.out _ (Fr.refl _ _))).mono ?_
  rintro e w5 ⟨rfl, hf5⟩
  have HF5 : Hid (Fr (fun _ => False) w0 w5) := ((HF1.out.trans HF3.out (fun _ _ h => h)).trans HF4.out (fun _ _ h => h)).trans hf5 (fun _ _ h => h)
  have HF35 : Hid (Fr (fun _ => False) w3 w5) := HF4.out.trans hf5 (fun _ _ h => h)
  obtain ⟨c0, c1, c2⟩ := HBX.out _ HF5.out
  obtain ⟨e0, e1, e2⟩ := HBY.out _ hf5
  clear hf5 HO1 HSL HF4
  go_wp2_with fail
  refine (HEB.out _ HF5.out HF35.out).mono ?_
  rintro e w6 ⟨rfl, hf6⟩
  have HF6 : Hid (Fr (fun _ => False) w0 w6) := HF5.out.trans hf6 (fun _ _ h => h)
  clear hf6 c0 c1 c2 e0 e1 e2
  go_wp2_with fail
  refine (touch_any 0 2 2 3 _).mono ?_
  rintro e w7 ⟨rfl, hf7⟩
  have HF7 : Hid (Fr (fun _ => False) w w7) := (HA.out.trans HF6.out (fun _ _ h => h)).trans hf7 (fun _ _ h => h)
  clear hf7
  have ht : touchB 0 2 2 3 = true := by decide
  rw [ht]
  go_wp2_with fail
  go_ret
  exact ⟨rfl, HF7.out⟩

end Go.Proofs.Ythliacfkmpijmaa
