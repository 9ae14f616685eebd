/- Lines of a bitmap: the row above, a row that is copied. -/
import Derived.Test.YtkggdnkmaldmlaaK17
import Derived.Laws.CopyOwn
import Derived.Test.YtkggdnkmaldmlaaProg
import Derived.Test.YtkggdnkmaldmlaaK1
import Derived.Test.YtkggdnkmaldmlaaK3
namespace Go.Proofs.Ytkggdnkmaldmlaa
open Go.RowKit

theorem cell_of_five {w : World} {b : Nat} {x0 x1 x2 x3 x4 : Value} {t : TypeId} (h : w.heap[b]? = some (.cells #[x0, x1, x2, x3, x4] t (0, 0))) :
    w.cell? ⟨b, 0, none⟩ = some x0 ∧ w.cell? ⟨b, 1, none⟩ = some x1 ∧ w.cell? ⟨b, 2, none⟩ = some x2 ∧ w.cell? ⟨b, 3, none⟩ = some x3 ∧ w.cell? ⟨b, 4, none⟩ = some x4 ∧ (∀ j, w.frozen? ⟨b, j, none⟩ = false) := by
  refine ⟨?_, ?_, ?_, ?_, ?_, fun j => ?_⟩ <;> simp [World.cell?, World.frozen?, h]

/-- A procedure. -/
def procV (base t : Nat) (skip : Bool) : Value := .agg #[.int .i64 base, .int .i64 t, .int .i64 (sizeT t : Nat), .int .i64 ((2 ^ cntS t 2 - 1 : Nat) : Int), .bool skip]
theorem sizeT_le (t : Nat) (ht : t < 4) : sizeT t ≤ 65536 := by
  have h := Nat.pow_le_pow_right (show 0 < 2 by decide) (bits_le t ht)
  exact h

/-- The words of the row above, and of a row. -/
def upL (W : Nat) (P : Pxs) (y : Nat) : List Nat := (List.range (stride W)).map fun j => wd W (fun x _ => upP P y x) 0 j
def lineL (W : Nat) (P : Pxs) (y : Nat) : List Nat := (List.range (stride W)).map fun j => wd W P y j
theorem length_upL (W : Nat) (P : Pxs) (y : Nat) : (upL W P y).length = stride W := by simp [upL]
theorem length_lineL (W : Nat) (P : Pxs) (y : Nat) : (lineL W P y).length = stride W := by simp [lineL]
theorem upL_get (W : Nat) (P : Pxs) (y j : Nat) (hj : j < stride W) : (upL W P y)[j]? = some (wd W (fun x _ => upP P y x) 0 j) := by
  unfold upL; rw [List.getElem?_map, List.getElem?_range hj]; rfl
theorem lineL_get (W : Nat) (P : Pxs) (y j : Nat) (hj : j < stride W) : (lineL W P y)[j]? = some (wd W P y j) := by
  unfold lineL; rw [List.getElem?_map, List.getElem?_range hj]; rfl
theorem wd_shift {W : Nat} {P Q : Pxs} {y z j : Nat} (h : ∀ x, x < W → P x y = Q x z) : wd W P y j = wd W Q z j := by
  unfold wd
  refine wordOf_congr fun k _ => ?_
  by_cases hk : 64 * j + k < W
  · rw [h _ hk]
  · rw [decide_eq_false hk]; rfl
theorem same_words (W : Nat) (P : Pxs) (y : Nat) : decide (lineL W P y = upL W P y) = sameR W P y := by
  unfold sameR
  refine decide_eq_decide.2 ⟨fun h x hx => ?_, fun h => ?_⟩
  · have hj : x / 64 < stride W := by unfold stride; omega
    have h1 := lineL_get W P y _ hj
    rw [h, upL_get W P y _ hj] at h1
    have h2 := pix_wd (y := y) P hx
    have h3 := pix_wd (y := 0) (fun x _ => upP P y x) hx
    rw [← h2, ← h3, Option.some.inj h1]
  · unfold lineL upL
    refine List.map_congr_left fun j _ => wd_shift fun x hx => h x hx
theorem upL_line (W : Nat) (P : Pxs) (y : Nat) : upL W P (y + 1) = lineL W P y := by
  unfold lineL upL
  refine List.map_congr_left fun j _ => wd_shift fun x _ => ?_
  unfold upP; rw [if_neg (by omega)]; rfl
theorem upL_first (W : Nat) (P : Pxs) : upL W P 0 = List.replicate (stride W) 0 := by
  unfold upL
  refine List.ext_getElem? fun i => ?_
  rw [List.getElem?_map, List.getElem?_replicate]
  by_cases hi : i < stride W
  · rw [List.getElem?_range hi, if_pos hi]
    show some (wd W _ 0 i) = _
    unfold wd upP
    simp [wordOf_false]
  · rw [if_neg hi, List.getElem?_eq_none (by simp; omega)]; rfl
theorem render_copy (W H : Nat) (P : Pxs) (y : Nat) (hy : y < H) (h1 : 1 ≤ W) : render W H (copyR W P y) = (render W H P).take (y * stride W) ++ (upL W P y ++ (render W H P).drop (y * stride W + stride W)) := by
  have hS : 0 < stride W := stride_pos (by omega)
  have hHS : y * stride W + stride W ≤ H * stride W := by
    have := Nat.mul_le_mul_right (stride W) (show y + 1 ≤ H by omega)
    rw [Nat.add_mul, Nat.one_mul] at this; exact this
  refine List.ext_getElem? fun i => ?_
  by_cases hi : i < H * stride W
  · rw [render_get' _ hi]
    rcases Nat.lt_or_ge i (y * stride W) with a | a
    · rw [List.getElem?_append_left (by rw [List.length_take, length_render]; omega), List.getElem?_take_of_lt a, render_get' _ hi]
      have hne : i / stride W < y := div_lt_of a
      refine congrArg some (wd_congr fun x hx => ?_)
      unfold copyR; rw [if_neg (by omega)]
    · rw [List.getElem?_append_right (by rw [List.length_take, length_render]; omega), List.length_take, length_render, Nat.min_eq_left (by omega)]
      rcases Nat.lt_or_ge i (y * stride W + stride W) with b | b
      · rw [List.getElem?_append_left (by rw [length_upL]; omega), upL_get _ _ _ _ (by omega)]
        have e : i = y * stride W + (i - y * stride W) := by omega
        have e1 : i / stride W = y := by rw [e]; exact at_div (by omega)
        have e2 : i % stride W = i - y * stride W := by conv => lhs; rw [e]
                                                        exact at_mod (by omega)
        rw [e1, e2]
        refine congrArg some (wd_shift fun x hx => ?_)
        unfold copyR; rw [if_pos ⟨rfl, hx⟩]
      · rw [List.getElem?_append_right (by rw [length_upL]; omega), length_upL, List.getElem?_drop, show y * stride W + stride W + (i - y * stride W - stride W) = i by omega, render_get' _ hi]
        refine congrArg some (wd_congr fun x hx => ?_)
        have hne : ¬ i / stride W = y := by
          intro h
          have h5 := Nat.div_add_mod i (stride W)
          have h6 := Nat.mod_lt i hS
          rw [h, Nat.mul_comm] at h5
          omega
        unfold copyR; rw [if_neg (by omega)]
  · rw [List.getElem?_eq_none (by rw [length_render]; omega), List.getElem?_eq_none]
    rw [List.length_append, List.length_append, List.length_take, length_upL, List.length_drop, length_render]; omega
theorem RowAt.cur {w : World} {g cap W H : Nat} {P : Pxs} (h : RowAt w g cap W H P) : ∃ cur : Array Value, w.heap[g]? = some (.cells cur 83 (0, 0)) ∧ H * stride W ≤ cap ∧ cap ≤ maxLen ∧ cur.size = cap ∧ cur.toList.take (H * stride W) = wordCells (render W H P) := by
  rcases h.2 with ⟨e, _⟩ | ⟨g', cap', cur, e, _, hg, hc, hm, hs, ht⟩
  · cases e
  · simp only [Value.slice.injEq, Option.some.injEq, Addr.mk.injEq, true_and, and_true] at e
    obtain ⟨rfl, rfl⟩ := e
    exact ⟨cur, hg, hc, hm, by simpa using hs, by simpa using ht⟩
/-- A row is copied from the one above. -/
theorem RowAt.copied {w : World} {g cap W H : Nat} {P : Pxs} (h : RowAt w g cap W H P) {cur : Array Value} (hc : w.heap[g]? = some (.cells cur 83 (0, 0))) {y : Nat} (hy : y < H) (h1 : 1 ≤ W) :
    RowAt (w.setRow g (cur.toList.take (y * stride W) ++ (wordCells (upL W P y) ++ cur.toList.drop (y * stride W + stride W))).toArray) g cap W H (copyR W P y) ∧ Fr (fun k => k = g) w (w.setRow g (cur.toList.take (y * stride W) ++ (wordCells (upL W P y) ++ cur.toList.drop (y * stride W + stride W))).toArray) := by
  obtain ⟨cur', hc', hcap, hm, hs, ht⟩ := h.cur
  rw [hc] at hc'
  simp only [Option.some.injEq, Obj.cells.injEq, and_true] at hc'
  subst hc'
  have hHS : y * stride W + stride W ≤ H * stride W := by
    have := Nat.mul_le_mul_right (stride W) (show y + 1 ≤ H by omega)
    rw [Nat.add_mul, Nat.one_mul] at this; exact this
  have hl : cur.toList.length = cap := by simpa using hs
  refine ⟨⟨by rw [length_wordCells, length_render]; omega, Or.inr ⟨g, cap, _, rfl, Nat.zero_le _, setRow_heap w g _ _ 83 _ hc, hcap, hm, ?_, ?_⟩⟩, ⟨rfl, rfl, rfl, by simp [World.setRow], fun k _ hk => setRow_other w g k _ (by omega)⟩⟩
  · simp only [List.size_toArray, List.length_append, List.length_take, List.length_drop, length_wordCells, length_upL, hl]
    omega
  · simp only [Nat.mul_one]
    rw [render_copy W H P y hy h1, wordCells_append, wordCells_append]
    have e1 : wordCells ((render W H P).take (y * stride W)) = cur.toList.take (y * stride W) := by
      rw [← wordCells_take, ← ht, List.take_take, Nat.min_eq_left (by omega)]
    have e2 : wordCells ((render W H P).drop (y * stride W + stride W)) = (cur.toList.take (H * stride W)).drop (y * stride W + stride W) := by
      rw [ht]; simp [wordCells, List.map_drop]
    rw [e1, e2, List.take_append, List.take_append, List.length_take, length_wordCells, length_upL, hl, List.take_take, Nat.min_eq_right (by omega), List.take_of_length_le (l := wordCells (upL W P y)) (by rw [length_wordCells, length_upL]; omega), List.drop_take]
    congr 3
    omega

end Go.Proofs.Ytkggdnkmaldmlaa

/- Package context: isNear, count, spansOf, Size. -/
namespace Go.Proofs.Ytkggdnkmaldmlaa
open Go.RowKit

theorem isNear_any (x : Int) (n : Nat) (w : World) (hx : -9223372036854775808 ≤ x ∧ x ≤ 9223372036854775807) (hn : n ≤ 1048576) (bb : Bool) (hbb : bb = decide (-4 ≤ x ∧ x ≤ n + 4)) :
    Calls Try.prog 96 #[.int .i64 x, .int .i64 n] w fun e w' => e = .returned (.bool bb) ∧ w' = w := by
  have hw : IntKind.i64.wrap ((n : Int) + 4) = n + 4 := by rw [IntKind.wrap_i64]; omega
  by_cases h1 : -4 ≤ x
  · by_cases h2 : x ≤ n + 4
    · have hbt : bb = true := by rw [hbb]; exact decide_eq_true ⟨h1, h2⟩
      subst hbt
      have hd1 : decide (-4 ≤ x) = true := decide_eq_true h1
      have hd2 : decide (x ≤ (n : Int) + 4) = true := decide_eq_true h2
      clear hbb h1 h2 hx hn
      go_enter Try.func96, Try.ntmps96
      go_wp2_with fail
      go_ret
      exact ⟨rfl, rfl⟩
    · have hbt : bb = false := by rw [hbb]; exact decide_eq_false (by omega)
      subst hbt
      have hd1 : decide (-4 ≤ x) = true := decide_eq_true h1
      have hd2 : decide (x ≤ (n : Int) + 4) = false := decide_eq_false h2
      clear hbb h1 h2 hx hn
      go_enter Try.func96, Try.ntmps96
      go_wp2_with fail
      go_ret
      exact ⟨rfl, rfl⟩
  · have hbt : bb = false := by rw [hbb]; exact decide_eq_false (by omega)
    subst hbt
    have hd1 : decide (-4 ≤ x) = false := decide_eq_false h1
    clear hbb h1 hx hn hw
    go_enter Try.func96, Try.ntmps96
    go_wp2_with fail
    go_ret
    exact ⟨rfl, rfl⟩

theorem count_any (a b : Int) (c : Nat) (w : World) (ha : -1000 ≤ a ∧ a ≤ 1000) (hb : -1000 ≤ b ∧ b ≤ 1000) (hc : b - a + 1 = (c : Int)) :
    Calls Try.prog 90 #[.agg #[.int .i64 a, .int .i64 b]] w fun e w' => e = .returned (.int .i64 c) ∧ Fr (fun _ => False) w w' := by
  have hw : IntKind.i64.wrap (b - a) = b - a := by rw [IntKind.wrap_i64]; omega
  have hw2 : IntKind.i64.wrap (b - a + 1) = (c : Int) := by rw [IntKind.wrap_i64]; omega
  clear ha hb hc
  go_enter Try.func90, Try.ntmps90
  go_wp2_with fail
  go_ret
  exact ⟨rfl, (Fr.refl _ _).alloc _⟩

def spanV (t i : Nat) : Value := .agg #[.int .i64 (fstS t i), .int .i64 (lstS t i)]
def spansV (t : Nat) : Value := .agg #[.int .i64 (fstS t 0), .int .i64 (lstS t 0), .int .i64 (fstS t 1), .int .i64 (lstS t 1), .int .i64 (fstS t 2), .int .i64 (lstS t 2)]

theorem spansOf_ok0 (w : World) :
    Calls Try.prog 89 #[.int .i64 0] w fun e w' => e = .returned (.tuple #[spansV 0, .bool true]) ∧ Fr (fun _ => False) w w' := by
  go_enter Try.func89, Try.ntmps89
  go_wp2_with fail
  refine bodyPost_ret (v := .tuple #[spansV 0, .bool true]) (by simp [results, Try.results89, go_sem]; rfl) rfl ?_
  exact ⟨rfl, (Fr.refl _ _).alloc _⟩

theorem spansOf_ok1 (w : World) :
    Calls Try.prog 89 #[.int .i64 1] w fun e w' => e = .returned (.tuple #[spansV 1, .bool true]) ∧ Fr (fun _ => False) w w' := by
  go_enter Try.func89, Try.ntmps89
  go_wp2_with fail
  refine bodyPost_ret (v := .tuple #[spansV 1, .bool true]) (by simp [results, Try.results89, go_sem]; rfl) rfl ?_
  exact ⟨rfl, (Fr.refl _ _).alloc _⟩

theorem spansOf_ok2 (w : World) :
    Calls Try.prog 89 #[.int .i64 2] w fun e w' => e = .returned (.tuple #[spansV 2, .bool true]) ∧ Fr (fun _ => False) w w' := by
  go_enter Try.func89, Try.ntmps89
  go_wp2_with fail
  refine bodyPost_ret (v := .tuple #[spansV 2, .bool true]) (by simp [results, Try.results89, go_sem]; rfl) rfl ?_
  exact ⟨rfl, (Fr.refl _ _).alloc _⟩

theorem spansOf_ok3 (w : World) :
    Calls Try.prog 89 #[.int .i64 3] w fun e w' => e = .returned (.tuple #[spansV 3, .bool true]) ∧ Fr (fun _ => False) w w' := by
  go_enter Try.func89, Try.ntmps89
  go_wp2_with fail
  refine bodyPost_ret (v := .tuple #[spansV 3, .bool true]) (by simp [results, Try.results89, go_sem]; rfl) rfl ?_
  exact ⟨rfl, (Fr.refl _ _).alloc _⟩

theorem spansOf_ok (t : Nat) (ht : t < 4) (w : World) :
    Calls Try.prog 89 #[.int .i64 t] w fun e w' => e = .returned (.tuple #[spansV t, .bool true]) ∧ Fr (fun _ => False) w w' := by
  match t, ht with
  | 0, _ => exact spansOf_ok0 w
  | 1, _ => exact spansOf_ok1 w
  | 2, _ => exact spansOf_ok2 w
  | 3, _ => exact spansOf_ok3 w

def noSpans : Value := .agg #[.int .i64 0, .int .i64 0, .int .i64 0, .int .i64 0, .int .i64 0, .int .i64 0]

theorem spansOf_bad (t : Int) (ht : t < 0 ∨ 4 ≤ t) (w : World) :
    Calls Try.prog 89 #[.int .i64 t] w fun e w' => e = .returned (.tuple #[noSpans, .bool false]) ∧ Fr (fun _ => False) w w' := by
  have h0 : (t == 0) = false := by simp; omega
  have h1 : (t == 1) = false := by simp; omega
  have h2 : (t == 2) = false := by simp; omega
  have h3 : (t == 3) = false := by simp; omega
  clear ht
  go_enter Try.func89, Try.ntmps89
  go_wp2_with fail
  refine bodyPost_ret (v := .tuple #[noSpans, .bool false]) (by simp [results, Try.results89, go_sem]; rfl) rfl ?_
  exact ⟨rfl, (Fr.refl _ _).alloc _⟩

theorem spans_index (w : World) (t i : Nat) (hi : i < 3) : (Instr.index 137 (.agg #[.int .i64 (fstS t 0), .int .i64 (lstS t 0), .int .i64 (fstS t 1), .int .i64 (lstS t 1), .int .i64 (fstS t 2), .int .i64 (lstS t 2)]) (.int .i64 (i : Int))).run Try.prog w = .ok (.agg #[.int .i64 (fstS t i), .int .i64 (lstS t i)]) w := by
  rcases (by omega : i = 0 ∨ i = 1 ∨ i = 2) with rfl | rfl | rfl <;> kernel_rfl

set_option maxRecDepth 100000 in
set_option maxHeartbeats 1000000 in
theorem size_any (t : Nat) (ht : t < 4) (w : World) :
    Calls Try.prog 69 #[.int .i64 t] w fun e w' => e = .returned (.tuple #[.int .i64 (sizeT t : Nat), .int .i64 0]) ∧ Fr (fun _ => False) w w' := by
  have HS : Hid (t < 4) := ht
  have HB : Hid (∀ k, k < 3 → (2 ^ bitsK t k : Nat) * 2 ^ cntS t k = 2 ^ bitsK t (k + 1) ∧ 2 ^ bitsK t (k + 1) ≤ 65536 ∧ cntS t k ≤ 7) := fun k hk => by
    have h : ∀ t, t < 4 → ∀ k, k < 3 → (2 ^ bitsK t k : Nat) * 2 ^ cntS t k = 2 ^ bitsK t (k + 1) ∧ 2 ^ bitsK t (k + 1) ≤ 65536 ∧ cntS t k ≤ 7 := by decide
    exact h t ht k hk
  clear ht
  go_enter Try.func69, Try.ntmps69
  go_wp2_with fail
  refine (spansOf_ok t HS.out _).mono ?_
  rintro e w1 ⟨rfl, hf1⟩
  have HF1 : Hid (Fr (fun _ => False) w w1) := hf1
  clear hf1
  unfold spansV
  go_wp2_with fail
  go_loopw [6, 8, 17] (fun s _ j wr => ∃ k : Nat, k ≤ 3 ∧ s = .int .i64 (2 ^ bitsK t k : Nat) ∧ j = .int .i64 k ∧ Fr (fun _ => False) w wr) (fun _ _ j _ => 3 - (intOf j).toNat)
  case atStart => exact ⟨0, Nat.zero_le _, rfl, rfl, HF1.out.alloc _⟩
  case round =>
    obtain ⟨k, hk, rfl, rfl, hfr⟩ := hrel
    have HFr : Hid (Fr (fun _ => False) w wr) := hfr
    clear hfr
    by_cases hlt : k < 3
    · obtain ⟨hb1, hb2, hb3⟩ := HB.out k hlt
      have hsf := span_facts t k HS.out hlt
      have HC : Hid (∀ w', Calls Try.prog 90 #[.agg #[.int .i64 (fstS t k), .int .i64 (lstS t k)]] w' fun e w'' => e = .returned (.int .i64 (cntS t k)) ∧ Fr (fun _ => False) w' w'') := fun w' => count_any _ _ _ w' (by omega) (by omega) hsf.2.2.2.2.1
      have hix := spans_index wr t k hlt
      obtain ⟨c, hc⟩ : ∃ c, c = cntS t k := ⟨_, rfl⟩
      obtain ⟨p, hp⟩ : ∃ p, p = 2 ^ bitsK t k := ⟨_, rfl⟩
      have HP : Hid (p * 2 ^ c = 2 ^ bitsK t (k + 1)) := by rw [hc, hp]; exact hb1
      rw [← hc] at HC hb3
      have hmin : min c 64 = c := by omega
      have hsh : IntKind.i64.wrap ((p : Int) * 2 ^ c) = ((p * 2 ^ c : Nat) : Int) := by
        have e : ((p : Int) * 2 ^ c) = ((p * 2 ^ c : Nat) : Int) := by rw [Int.natCast_mul, Int.natCast_pow]; rfl
        rw [e, IntKind.wrap_i64]; rw [HP.out]; omega
      rw [← hp]
      clear hsf hb1 hb2 hc hp
      go_wp2_with fail
      refine (HC.out _).mono ?_
      rintro e w2 ⟨rfl, hf2⟩
      have HF2 : Hid (Fr (fun _ => False) w w2) := (HFr.out.alloc _).trans hf2 (fun _ _ h => h)
      clear hf2
      go_wp2_with fail
      go_roundw
      case rel => exact ⟨k + 1, by omega, congrArg (Value.int .i64) (by rw [← HP.out, Int.natCast_mul, Int.natCast_pow]; rfl), congrArg (Value.int .i64) (by omega), HF2.out⟩
      case measure => simp [intOf]; omega
    · obtain rfl : k = 3 := by omega
      go_wp2_with fail
      go_ret2
      exact ⟨rfl, HFr.out⟩

end Go.Proofs.Ytkggdnkmaldmlaa

/- Package context: pixelOf, rowOf. -/
namespace Go.Proofs.Ytkggdnkmaldmlaa
open Go.RowKit

set_option maxRecDepth 100000 in
set_option maxHeartbeats 1000000 in
theorem pixelOf_any (v : Value) (l : List Nat) (x : Int) (w : World) (hv : Seen w v l) (hl : l.length ≤ 1048576) (hlt : ∀ j : Nat, l[j]?.getD 0 < 18446744073709551616) (hx : -9223372036854775808 ≤ x ∧ x ≤ 9223372036854775807) :
    Calls Try.prog 98 #[v, .int .i64 x] w fun e w' => e = .returned (.int .i64 (rowpix l x : Nat)) ∧ w' = w := by
  obtain ⟨ao, cap, rfl, hll, hcc⟩ := hv
  have g0 : IntKind.i64.wrap ((l.length : Int) * 64) = (l.length : Int) * 64 := by rw [IntKind.wrap_i64]; omega
  by_cases h0 : x < 0
  · have e : rowpix l x = 0 := by unfold rowpix; rw [if_neg (by omega)]
    rw [e]
    have hd : decide (x < 0) = true := decide_eq_true h0
    clear e h0 hx hcc hlt g0
    go_enter Try.func98, Try.ntmps98
    go_wp2_with fail
    go_ret
    exact ⟨rfl, rfl⟩
  · by_cases h1 : (l.length : Int) * 64 ≤ x
    · have e : rowpix l x = 0 := by unfold rowpix; rw [if_neg (by omega)]
      rw [e]
      have hd : decide (x < 0) = false := decide_eq_false h0
      have hd2 : decide ((l.length : Int) * 64 ≤ x) = true := decide_eq_true h1
      clear e h0 h1 hx hcc hlt
      go_enter Try.func98, Try.ntmps98
      go_wp2_with fail
      go_ret
      exact ⟨rfl, rfl⟩
    · obtain ⟨k, rfl⟩ : ∃ k : Nat, x = (k : Int) := ⟨x.toNat, by omega⟩
      have hd : decide ((k : Int) < 0) = false := decide_eq_false h0
      have hd2 : decide ((l.length : Int) * 64 ≤ (k : Int)) = false := decide_eq_false h1
      have hkl : k / 64 < l.length := by omega
      obtain ⟨b, off, rfl, hc⟩ := hcc (by intro e; rw [e] at hkl; simp at hkl)
      have hcw := hc _ hkl
      have hX := hlt (k / 64)
      have HE : Hid (rowpix l (k : Int) = ((l[k / 64]?.getD 0).testBit (63 - k % 64)).toNat) := by
        show _ = _
        unfold rowpix; rw [if_pos (by omega), Nat.toNat_testBit]; rfl
      have HBN := bit_num (l[k / 64]?.getD 0) (63 - k % 64) hX
      generalize l[k / 64]?.getD 0 = X at *
      obtain ⟨A, hA⟩ : ∃ A, A = k / 64 := ⟨_, rfl⟩
      rw [← hA] at hcw hkl
      have e1 : (k : Int).tdiv 64 = (k : Int) / 64 := Int.tdiv_eq_ediv_of_nonneg (by omega)
      have e2 : (k : Int).tmod 64 = (k : Int) % 64 := Int.tmod_eq_emod_of_nonneg (by omega)
      have g6 : IntKind.i64.wrap ((k : Int) / 64) = (A : Int) := by rw [IntKind.wrap_i64]; omega
      have g7 : IntKind.i64.wrap (63 - (k : Int) % 64) = 63 - (k : Int) % 64 := by rw [IntKind.wrap_i64]; omega
      have g3 : (A : Int).toNat = A := by omega
      have g4 : (0 : Int) ≤ (A : Int) := by omega
      have g5 : (A : Int) < (l.length : Int) := by omega
      have g8 : (0 : Int) ≤ 63 - (k : Int) % 64 := by omega
      rw [HE.out]
      clear hA hcc hlt hc h0 h1 hx
      go_enter Try.func98, Try.ntmps98
      go_wp2_with fail
      go_ret
      refine ⟨congrArg (fun x => Ending.returned (Value.int .i64 x)) ?_, rfl⟩
      exact HBN

/-- A slice's capacity covers its length. -/
def CapOK (v : Value) : Prop := ∀ ao n c, v = .slice ao n c → n ≤ c ∧ c ≤ maxLen

theorem rowL_in (W H : Nat) (P : Nat → Nat → Bool) (y : Nat) (hy : y < H) : rowL W H P y = (List.range (stride W)).map fun j => wd W P y j := by
  unfold rowL; rw [if_pos (by omega)]; rfl
theorem rowL_out (W H : Nat) (P : Nat → Nat → Bool) (y : Int) (hy : ¬ (0 ≤ y ∧ y < H)) : rowL W H P y = [] := by
  unfold rowL; rw [if_neg hy]
theorem rowL_lt (W H : Nat) (P : Nat → Nat → Bool) (y : Int) (j : Nat) : (rowL W H P y)[j]?.getD 0 < 18446744073709551616 := by
  unfold rowL
  split
  · rw [List.getElem?_map]
    cases (List.range (stride W))[j]? with
    | none => simp
    | some k => exact wd_lt _ _ _ _
  · simp

set_option maxRecDepth 100000 in
set_option maxHeartbeats 1000000 in
theorem rowOf_any (W H : Nat) (v : Value) (P : Nat → Nat → Bool) (y : Int) (w : World) (hv : Seen w v (render W H P)) (hcap : CapOK v) (h1 : 1 ≤ W) (h2 : 1 ≤ H) (h3 : W * H ≤ 1048576) (hy : -9223372036854775808 ≤ y ∧ y ≤ 9223372036854775807) :
    Calls Try.prog 97 #[.agg #[.int .i64 W, .int .i64 H, v], .int .i64 y] w fun e w' => (∃ v', e = .returned v' ∧ ∀ u, Seen u v (render W H P) → Seen u v' (rowL W H P y)) ∧ Fr (fun _ => False) w w' := by
  obtain ⟨f1, f2, f3⟩ := size_facts h1 h2 h3
  have HV := hv
  obtain ⟨ao, cap, rfl, hll, hcc⟩ := hv
  obtain ⟨hc1, hc2⟩ := hcap _ _ _ rfl
  rw [length_render] at hcc hll hc1 ⊢
  by_cases h0 : y < 0
  · rw [rowL_out _ _ _ _ (by omega)]
    have hd : decide (y < 0) = true := decide_eq_true h0
    clear h0 hy hcc hc1 hc2 hcap HV h1 h2 h3
    go_enter Try.func97, Try.ntmps97
    go_wp2_with fail
    go_ret
    exact ⟨⟨_, rfl, fun _ _ => ⟨none, 0, rfl, by simp, fun h => absurd rfl h⟩⟩, (Fr.refl _ _).alloc _⟩
  · by_cases hH : (H : Int) ≤ y
    · rw [rowL_out _ _ _ _ (by omega)]
      have hd : decide (y < 0) = false := decide_eq_false h0
      have hd2 : decide ((H : Int) ≤ y) = true := decide_eq_true hH
      clear h0 hH hy hcc hc1 hc2 hcap HV h1 h2 h3
      go_enter Try.func97, Try.ntmps97
      go_wp2_with fail
      go_ret
      exact ⟨⟨_, rfl, fun _ _ => ⟨none, 0, rfl, by simp, fun h => absurd rfl h⟩⟩, (Fr.refl _ _).alloc _⟩
    · obtain ⟨k, rfl⟩ : ∃ k : Nat, y = (k : Int) := ⟨y.toNat, by omega⟩
      have hkH : k < H := by omega
      have hS := stride_pos (W := W) h1
      have hend : k * stride W + stride W ≤ H * stride W := by rw [← Nat.succ_mul]; exact Nat.mul_le_mul_right _ hkH
      have hne : render W H P ≠ [] := by
        intro e
        have := length_render W H P
        rw [e] at this
        simp only [List.length_nil] at this
        omega
      obtain ⟨b0, off, rfl, hcell⟩ := hcc hne
      have HC : Hid (∀ u, Seen u (.slice (some ⟨b0, off, none⟩) (render W H P).length cap) (render W H P) → ∀ j, j < stride W → u.cell? ⟨b0, off + k * stride W + j, none⟩ = some (.int .u64 (wd W P k j : Nat))) := fun u hu j hj => by
        obtain ⟨ao', cap', e, _, hcu⟩ := hu
        obtain ⟨b1, off1, rfl, hcell1⟩ := hcu hne
        simp only [Value.slice.injEq, Option.some.injEq, Addr.mk.injEq] at e
        obtain ⟨⟨rfl, rfl, _⟩, _⟩ := e
        have hat := at_lt hkH hj
        have := hcell1 (k * stride W + j) (by rw [length_render]; exact hat)
        rw [render_get P hkH hj, Option.getD_some, ← Nat.add_assoc] at this
        exact this
      rw [length_render] at HC
      have hd : decide ((k : Int) < 0) = false := decide_eq_false h0
      have hd2 : decide ((H : Int) ≤ (k : Int)) = false := decide_eq_false hH
      rw [rowL_in W H P k hkH]
      have hq : ((H * stride W : Nat) : Int).tdiv (H : Int) = (stride W : Int) := by
        rw [Int.natCast_mul, Int.mul_tdiv_cancel_left _ (by omega)]
      have hH0 : ((H : Int) == 0) = false := by simp; omega
      have hH1 : ¬ (H : Int) = 0 := by omega
      have hL : ((List.range (stride W)).map fun j => wd W P k j).length = stride W := by simp
      have HG : Hid (∀ j, j < stride W → (((List.range (stride W)).map fun j => wd W P k j)[j]?.getD 0) = wd W P k j) := fun j hj => by
        rw [List.getElem?_map, List.getElem?_range hj]; rfl
      unfold maxLen at hc2
      generalize ((List.range (stride W)).map fun j => wd W P k j) = R at *
      have HL : Hid (R.length = stride W) := hL
      clear hL hcell hcc hne HV hcap h0 hH
      have hwl : H * stride W ≤ 1048576 := f3
      generalize hSS : stride W = S at *
      generalize hN : H * S = N at *
      have hm1 : (k : Int) * (S : Int) = ((k * S : Nat) : Int) := by push_cast; rfl
      have hm2 : ((k : Int) + 1) * (S : Int) = ((k * S : Nat) : Int) + (S : Int) := by rw [Int.add_mul, hm1]; omega
      generalize k * S = a at *
      have hn1 : ¬ a + S = a := by omega
      have hn2 : ¬ S = 0 := by omega
      clear hSS hN
      go_enter Try.func97, Try.ntmps97
      go_wp2
      all_goals first | (exfalso; omega) | skip
      go_ret
      refine ⟨⟨_, rfl, fun u hu => ⟨some ⟨b0, off + a, none⟩, cap - a, by rw [HL.out, Nat.add_sub_cancel_left]; rfl, by rw [HL.out]; omega, fun _ => ⟨b0, off + a, rfl, fun j hj => ?_⟩⟩⟩, (Fr.refl _ _).alloc _⟩
      rw [HL.out] at hj
      rw [HG.out j hj]
      exact HC.out u hu j hj

end Go.Proofs.Ytkggdnkmaldmlaa

/- A bitmap that may be, as it is handed in; what the law's numbers need. -/
namespace Go.Proofs.Ytkggdnkmaldmlaa
open Go.RowKit

theorem band64 (c k : Nat) (h : c < 9223372036854775808) (hk : k < 63) : bits .and .i64 (c : Int) ((2 ^ k - 1 : Nat) : Int) = ((c % 2 ^ k : Nat) : Int) := by
  have hp : 2 ^ k ≤ 2 ^ 62 := Nat.pow_le_pow_right (by decide) (by omega)
  have e62 : (2 : Nat) ^ 62 = 4611686018427387904 := rfl
  show IntKind.i64.wrap ((BitVec.ofInt 64 (c : Int) &&& BitVec.ofInt 64 ((2 ^ k - 1 : Nat) : Int)).toNat : Int) = _
  rw [BitVec.toNat_and, BitVec.ofInt_natCast, BitVec.ofInt_natCast, BitVec.toNat_ofNat, BitVec.toNat_ofNat, Nat.mod_eq_of_lt (a := c) (by omega), Nat.mod_eq_of_lt (a := 2 ^ k - 1) (by omega), Nat.and_two_pow_sub_one_eq_mod, IntKind.wrap_i64]
  have : c % 2 ^ k < 2 ^ k := Nat.mod_lt _ (Nat.two_pow_pos _)
  omega
theorem bor64_nat (a b : Nat) (ha : a < 4611686018427387904) (hb : b < 4611686018427387904) : bits .or .i64 (a : Int) (b : Int) = ((a ||| b : Nat) : Int) := by
  have hx : a ||| b < 2 ^ 62 := Nat.or_lt_two_pow (by omega) (by omega)
  show IntKind.i64.wrap ((BitVec.ofInt 64 (a : Int) ||| BitVec.ofInt 64 (b : Int)).toNat : Int) = _
  rw [BitVec.toNat_or, BitVec.ofInt_natCast, BitVec.ofInt_natCast, BitVec.toNat_ofNat, BitVec.toNat_ofNat, Nat.mod_eq_of_lt (a := a) (by omega), Nat.mod_eq_of_lt (a := b) (by omega), IntKind.wrap_i64]
  omega
theorem band64_nat (a b : Nat) (ha : a < 4611686018427387904) (hb : b < 4611686018427387904) : bits .and .i64 (a : Int) (b : Int) = ((a &&& b : Nat) : Int) := by
  have hx : a &&& b < 2 ^ 62 := Nat.and_lt_two_pow _ (by omega)
  show IntKind.i64.wrap ((BitVec.ofInt 64 (a : Int) &&& BitVec.ofInt 64 (b : Int)).toNat : Int) = _
  rw [BitVec.toNat_and, BitVec.ofInt_natCast, BitVec.ofInt_natCast, BitVec.toNat_ofNat, BitVec.toNat_ofNat, Nat.mod_eq_of_lt (a := a) (by omega), Nat.mod_eq_of_lt (a := b) (by omega), IntKind.wrap_i64]
  omega
/-- Digits laid behind a number. -/
theorem bor64 (a k b : Nat) (ha : a * 2 ^ k < 4611686018427387904) (hb : b < 2 ^ k) (hk : k < 62) : bits .or .i64 ((a * 2 ^ k : Nat) : Int) (b : Int) = ((a * 2 ^ k + b : Nat) : Int) := by
  have hp : 2 ^ k ≤ 2 ^ 61 := Nat.pow_le_pow_right (by decide) (by omega)
  have e61 : (2 : Nat) ^ 61 = 2305843009213693952 := rfl
  rw [bor64_nat _ _ ha (by omega), Nat.mul_comm a, Nat.two_pow_add_eq_or_of_lt hb]
theorem bor64_one (a b : Nat) (ha : a < 2305843009213693952) (hb : b ≤ 1) : bits .or .i64 ((a : Int) * 2) (b : Int) = ((2 * a + b : Nat) : Int) := by
  have := bor64 a 1 b (by omega) (by omega) (by omega)
  rw [show ((a * 2 ^ 1 : Nat) : Int) = (a : Int) * 2 by omega] at this
  rw [this]; omega

theorem render_lt' (W H : Nat) (P : Nat → Nat → Bool) (j : Nat) : (render W H P)[j]?.getD 0 < 18446744073709551616 := by
  by_cases h : j < H * stride W
  · rw [render_get' P h]; exact wd_lt _ _ _ _
  · rw [List.getElem?_eq_none (by rw [length_render]; omega)]; simp
theorem render_rowOK (W H : Nat) (P : Nat → Nat → Bool) (hW : 1 ≤ W) (j : Nat) (hj : j < H) : rowOK W (render W H P) j := by
  have hS : 0 < stride W := by unfold stride; omega
  unfold rowOK
  have e : (j + 1) * stride W - 1 = j * stride W + (stride W - 1) := by rw [Nat.add_mul, Nat.one_mul]; omega
  rw [e, render_get P hj (by omega), Option.getD_some]
  apply Nat.eq_of_testBit_eq
  intro i
  rw [Nat.testBit_mod_two_pow, Nat.zero_testBit]
  have hs : W ≤ 64 * stride W ∧ 64 * stride W < W + 64 := by unfold stride; omega
  by_cases hi : i < 64 * stride W - W
  · have h63 : i = 63 - (63 - i) := by omega
    unfold wd
    rw [h63, bit_wordOf _ _ (by omega), decide_eq_false (show ¬ (64 * (stride W - 1) + (63 - i) < W) by omega)]
    simp
  · rw [decide_eq_false hi]; rfl
theorem render_valid (W H : Nat) (Q : Nat → Nat → Bool) (h1 : 1 ≤ W) (h2 : 1 ≤ H) (h3 : W * H ≤ 1048576) : validB (W : Int) (H : Int) (render W H Q) = true := by
  have hs : sizeOK (W : Int) (H : Int) = true := by
    unfold sizeOK
    refine decide_eq_true ⟨by omega, by omega, ?_⟩
    rw [← Int.natCast_mul]; omega
  rw [validB_nat W H _ hs, decide_eq_true (length_render W H Q), Bool.true_and]
  exact decide_eq_true (fun j hj => render_rowOK W H Q h1 j hj)

/-- A bitmap that may be, in memory. -/
structure Bm (w : World) (v : Value) (W H : Nat) (P : Nat → Nat → Bool) : Prop where
  seen : Seen w v (render W H P)
  cap : CapOK v
  h1 : 1 ≤ W
  h2 : 1 ≤ H
  h3 : W * H ≤ 1048576
theorem Bm.kept {w w' : World} {v : Value} {W H : Nat} {P : Nat → Nat → Bool} (h : Bm w v W H P) (f : Fr (fun _ => False) w w') : Bm w' v W H P := ⟨h.seen.kept f, h.cap, h.h1, h.h2, h.h3⟩
theorem Bm.check {w : World} {v : Value} {W H : Nat} {P : Nat → Nat → Bool} (h : Bm w v W H P) : Calls Try.prog 48 #[.agg #[.int .i64 W, .int .i64 H, v]] w fun e w' => e = .returned (.bool true) ∧ Fr (fun _ => False) w w' := by
  obtain ⟨f1, f2, f3⟩ := size_facts h.h1 h.h2 h.h3
  have := check_any W H v _ w (by omega) (by omega) h.seen (render_lt' W H P)
  rwa [render_valid W H P h.h1 h.h2 h.h3] at this
theorem Bm.row {w : World} {v : Value} {W H : Nat} {P : Nat → Nat → Bool} (h : Bm w v W H P) (y : Int) (hy : -9223372036854775808 ≤ y ∧ y ≤ 9223372036854775807) : Calls Try.prog 97 #[.agg #[.int .i64 W, .int .i64 H, v], .int .i64 y] w fun e w' => (∃ v', e = .returned v' ∧ ∀ u, Seen u v (render W H P) → Seen u v' (rowL W H P y)) ∧ Fr (fun _ => False) w w' := rowOf_any W H v P y w h.seen h.cap h.h1 h.h2 h.h3 hy
theorem row_pix {w : World} {v' : Value} {W H : Nat} {P : Nat → Nat → Bool} {y : Int} (h : Seen w v' (rowL W H P y)) (hW : W ≤ 1048576) (x : Int) (hx : -9223372036854775808 ≤ x ∧ x ≤ 9223372036854775807) : Calls Try.prog 98 #[v', .int .i64 x] w fun e w' => e = .returned (.int .i64 (pixI W H P x y : Nat)) ∧ w' = w := by
  have := pixelOf_any v' _ x w h (by have := rowL_length W H P y; have : stride W ≤ W + 63 := by unfold stride; omega
                                     unfold stride at *; omega) (rowL_lt W H P y) hx
  rwa [rowpix_pixI] at this

end Go.Proofs.Ytkggdnkmaldmlaa
