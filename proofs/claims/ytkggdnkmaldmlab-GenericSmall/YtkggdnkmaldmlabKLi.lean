/- Lines of a bitmap: the row above, a row that is copied. -/
import Derived.Test.YtkggdnkmaldmlabKWh
import Derived.Laws.CopyOwn
namespace Go.Proofs.Ytkggdnkmaldmlab
open Go.RowKit

theorem cell_of_five {w : World} {b : Nat} {x0 x1 x2 x3 x4 : Value} {t : TypeId} (h : w.heap[b]? = some (.cells #[x0, x1, x2, x3, x4] t (0, 0))) :
    w.cell? ⟨b, 0, none⟩ = some x0 ∧ w.cell? ⟨b, 1, none⟩ = some x1 ∧ w.cell? ⟨b, 2, none⟩ = some x2 ∧ w.cell? ⟨b, 3, none⟩ = some x3 ∧ w.cell? ⟨b, 4, none⟩ = some x4 ∧ (∀ j, w.frozen? ⟨b, j, none⟩ = false) := by
  refine ⟨?_, ?_, ?_, ?_, ?_, fun j => ?_⟩ <;> simp [World.cell?, World.frozen?, h]

/-- A procedure. -/
def procV (base t : Nat) (skip : Bool) : Value := .agg #[.int .i64 base, .int .i64 t, .int .i64 (sizeT t : Nat), .int .i64 ((2 ^ cntS t 2 - 1 : Nat) : Int), .bool skip]
theorem sizeT_le (t : Nat) (ht : t < 4) : sizeT t ≤ 65536 := by
  have h := Nat.pow_le_pow_right (show 0 < 2 by decide) (bits_le t ht)
  exact h

/-- The words of the row above, and of a row. -/
def upL (W : Nat) (P : Pxs) (y : Nat) : List Nat := (List.range (stride W)).map fun j => wd W (fun x _ => upP P y x) 0 j
def lineL (W : Nat) (P : Pxs) (y : Nat) : List Nat := (List.range (stride W)).map fun j => wd W P y j
theorem length_upL (W : Nat) (P : Pxs) (y : Nat) : (upL W P y).length = stride W := by simp [upL]
theorem length_lineL (W : Nat) (P : Pxs) (y : Nat) : (lineL W P y).length = stride W := by simp [lineL]
theorem upL_get (W : Nat) (P : Pxs) (y j : Nat) (hj : j < stride W) : (upL W P y)[j]? = some (wd W (fun x _ => upP P y x) 0 j) := by
  unfold upL; rw [List.getElem?_map, List.getElem?_range hj]; rfl
theorem lineL_get (W : Nat) (P : Pxs) (y j : Nat) (hj : j < stride W) : (lineL W P y)[j]? = some (wd W P y j) := by
  unfold lineL; rw [List.getElem?_map, List.getElem?_range hj]; rfl
theorem wd_shift {W : Nat} {P Q : Pxs} {y z j : Nat} (h : ∀ x, x < W → P x y = Q x z) : wd W P y j = wd W Q z j := by
  unfold wd
  refine wordOf_congr fun k _ => ?_
  by_cases hk : 64 * j + k < W
  · rw [h _ hk]
  · rw [decide_eq_false hk]; rfl
theorem same_words (W : Nat) (P : Pxs) (y : Nat) : decide (lineL W P y = upL W P y) = sameR W P y := by
  unfold sameR
  refine decide_eq_decide.2 ⟨fun h x hx => ?_, fun h => ?_⟩
  · have hj : x / 64 < stride W := by unfold stride; omega
    have h1 := lineL_get W P y _ hj
    rw [h, upL_get W P y _ hj] at h1
    have h2 := pix_wd (y := y) P hx
    have h3 := pix_wd (y := 0) (fun x _ => upP P y x) hx
    rw [← h2, ← h3, Option.some.inj h1]
  · unfold lineL upL
    refine List.map_congr_left fun j _ => wd_shift fun x hx => h x hx
theorem upL_line (W : Nat) (P : Pxs) (y : Nat) : upL W P (y + 1) = lineL W P y := by
  unfold lineL upL
  refine List.map_congr_left fun j _ => wd_shift fun x _ => ?_
  unfold upP; rw [if_neg (by omega)]; rfl
theorem upL_first (W : Nat) (P : Pxs) : upL W P 0 = List.replicate (stride W) 0 := by
  unfold upL
  refine List.ext_getElem? fun i => ?_
  rw [List.getElem?_map, List.getElem?_replicate]
  by_cases hi : i < stride W
  · rw [List.getElem?_range hi, if_pos hi]
    show some (wd W _ 0 i) = _
    unfold wd upP
    simp [wordOf_false]
  · rw [if_neg hi, List.getElem?_eq_none (by simp; omega)]; rfl
theorem render_copy (W H : Nat) (P : Pxs) (y : Nat) (hy : y < H) (h1 : 1 ≤ W) : render W H (copyR W P y) = (render W H P).take (y * stride W) ++ (upL W P y ++ (render W H P).drop (y * stride W + stride W)) := by
  have hS : 0 < stride W := stride_pos (by omega)
  have hHS : y * stride W + stride W ≤ H * stride W := by
    have := Nat.mul_le_mul_right (stride W) (show y + 1 ≤ H by omega)
    rw [Nat.add_mul, Nat.one_mul] at this; exact this
  refine List.ext_getElem? fun i => ?_
  by_cases hi : i < H * stride W
  · rw [render_get' _ hi]
    rcases Nat.lt_or_ge i (y * stride W) with a | a
    · rw [List.getElem?_append_left (by rw [List.length_take, length_render]; omega), List.getElem?_take_of_lt a, render_get' _ hi]
      have hne : i / stride W < y := div_lt_of a
      refine congrArg some (wd_congr fun x hx => ?_)
      unfold copyR; rw [if_neg (by omega)]
    · rw [List.getElem?_append_right (by rw [List.length_take, length_render]; omega), List.length_take, length_render, Nat.min_eq_left (by omega)]
      rcases Nat.lt_or_ge i (y * stride W + stride W) with b | b
      · rw [List.getElem?_append_left (by rw [length_upL]; omega), upL_get _ _ _ _ (by omega)]
        have e : i = y * stride W + (i - y * stride W) := by omega
        have e1 : i / stride W = y := by rw [e]; exact at_div (by omega)
        have e2 : i % stride W = i - y * stride W := by conv => lhs; rw [e]
                                                        exact at_mod (by omega)
        rw [e1, e2]
        refine congrArg some (wd_shift fun x hx => ?_)
        unfold copyR; rw [if_pos ⟨rfl, hx⟩]
      · rw [List.getElem?_append_right (by rw [length_upL]; omega), length_upL, List.getElem?_drop, show y * stride W + stride W + (i - y * stride W - stride W) = i by omega, render_get' _ hi]
        refine congrArg some (wd_congr fun x hx => ?_)
        have hne : ¬ i / stride W = y := by
          intro h
          have h5 := Nat.div_add_mod i (stride W)
          have h6 := Nat.mod_lt i hS
          rw [h, Nat.mul_comm] at h5
          omega
        unfold copyR; rw [if_neg (by omega)]
  · rw [List.getElem?_eq_none (by rw [length_render]; omega), List.getElem?_eq_none]
    rw [List.length_append, List.length_append, List.length_take, length_upL, List.length_drop, length_render]; omega
theorem RowAt.cur {w : World} {g cap W H : Nat} {P : Pxs} (h : RowAt w g cap W H P) : ∃ cur : Array Value, w.heap[g]? = some (.cells cur 67 (0, 0)) ∧ H * stride W ≤ cap ∧ cap ≤ maxLen ∧ cur.size = cap ∧ cur.toList.take (H * stride W) = wordCells (render W H P) := by
  rcases h.2 with ⟨e, _⟩ | ⟨g', cap', cur, e, _, hg, hc, hm, hs, ht⟩
  · cases e
  · simp only [Value.slice.injEq, Option.some.injEq, Addr.mk.injEq, true_and, and_true] at e
    obtain ⟨rfl, rfl⟩ := e
    exact ⟨cur, hg, hc, hm, by simpa using hs, by simpa using ht⟩
/-- A row is copied from the one above. -/
theorem RowAt.copied {w : World} {g cap W H : Nat} {P : Pxs} (h : RowAt w g cap W H P) {cur : Array Value} (hc : w.heap[g]? = some (.cells cur 67 (0, 0))) {y : Nat} (hy : y < H) (h1 : 1 ≤ W) :
    RowAt (w.setRow g (cur.toList.take (y * stride W) ++ (wordCells (upL W P y) ++ cur.toList.drop (y * stride W + stride W))).toArray) g cap W H (copyR W P y) ∧ Fr (fun k => k = g) w (w.setRow g (cur.toList.take (y * stride W) ++ (wordCells (upL W P y) ++ cur.toList.drop (y * stride W + stride W))).toArray) := by
  obtain ⟨cur', hc', hcap, hm, hs, ht⟩ := h.cur
  rw [hc] at hc'
  simp only [Option.some.injEq, Obj.cells.injEq, and_true] at hc'
  subst hc'
  have hHS : y * stride W + stride W ≤ H * stride W := by
    have := Nat.mul_le_mul_right (stride W) (show y + 1 ≤ H by omega)
    rw [Nat.add_mul, Nat.one_mul] at this; exact this
  have hl : cur.toList.length = cap := by simpa using hs
  refine ⟨⟨by rw [length_wordCells, length_render]; omega, Or.inr ⟨g, cap, _, rfl, Nat.zero_le _, setRow_heap w g _ _ 67 _ hc, hcap, hm, ?_, ?_⟩⟩, ⟨rfl, rfl, rfl, by simp [World.setRow], fun k _ hk => setRow_other w g k _ (by omega)⟩⟩
  · simp only [List.size_toArray, List.length_append, List.length_take, List.length_drop, length_wordCells, length_upL, hl]
    omega
  · simp only [Nat.mul_one]
    rw [render_copy W H P y hy h1, wordCells_append, wordCells_append]
    have e1 : wordCells ((render W H P).take (y * stride W)) = cur.toList.take (y * stride W) := by
      rw [← wordCells_take, ← ht, List.take_take, Nat.min_eq_left (by omega)]
    have e2 : wordCells ((render W H P).drop (y * stride W + stride W)) = (cur.toList.take (H * stride W)).drop (y * stride W + stride W) := by
      rw [ht]; simp [wordCells, List.map_drop]
    rw [e1, e2, List.take_append, List.take_append, List.length_take, length_wordCells, length_upL, hl, List.take_take, Nat.min_eq_right (by omega), List.take_of_length_le (l := wordCells (upL W P y)) (by rw [length_wordCells, length_upL]; omega), List.drop_take]
    congr 3
    omega

end Go.Proofs.Ytkggdnkmaldmlab
