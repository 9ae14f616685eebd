/- The bitmaps of 'MatchMany', their classes. -/
import Derived.Test.YtodgdbbhllejkabNe
namespace Go.Proofs.Ytodgdbbhllejkab
open Go.RowKit

/-- The j-th bitmap: its number in its twelve pixels. -/
def mB (g : Nat → Nat) (j : Nat) : Bp := ⟨12, 1, .slice (some ⟨g j, 0, none⟩) 1 1, [j * 4503599627370496]⟩
set_option maxRecDepth 100000 in
theorem ok_all : ∀ j, j < 4096 → validB 12 1 [j * 4503599627370496] = true := by decide +kernel
theorem lt_sing (x : Nat) (h : x < 18446744073709551616) : ∀ j : Nat, ([x] : List Nat)[j]?.getD 0 < 18446744073709551616 := fun j => by
  match j with
  | 0 => exact h
  | j + 1 => simp
theorem mB_good (g : Nat → Nat) {j : Nat} (hj : j < 4096) : Good (mB g j) := ⟨ok_all j hj, lt_sing _ (by omega)⟩

theorem clR_all (nr : Nat → Nat → Bool) (n : Nat) (h : ∀ i j, j < i → i < n → nr j i = false) : clR nr n = List.range n := by
  induction n with
  | zero => rfl
  | succ n ih =>
    have e := ih (fun i j h1 h2 => h i j h1 (by omega))
    have hf : fnd nr (clR nr n) n = none := by
      unfold fnd
      rw [List.find?_eq_none]
      intro c hc
      rw [e, List.length_range] at hc
      have hc' := List.mem_range.1 hc
      rw [e, List.getD_eq_getElem?_getD, List.getElem?_range hc']
      show ¬ nr c n = true
      rw [h n c hc' (by omega)]
      decide
    rw [clR_succ_none hf, e, List.range_succ]

/-- One bitmap behind them. -/
def mA (g : Nat → Nat) (b : Bp) (j : Nat) : Bp := if j < 4096 then mB g j else b
theorem mA_lt (g : Nat → Nat) (b : Bp) {j : Nat} (h : j < 4096) : mA g b j = mB g j := if_pos h
theorem mA_last (g : Nat → Nat) (b : Bp) : mA g b 4096 = b := if_neg (Nat.lt_irrefl _)
theorem mA_apart (g : Nat → Nat) (b : Bp) (i j : Nat) (hj : j < i) (hi : i < 4096) : nrA 0 (mA g b) j i = false := by
  unfold nrA
  rw [mA_lt g b hi, mA_lt g b (by omega : j < 4096), nrB_zero (by decide +kernel) (mB_good g (by omega)) (mB_good g hi)]
  unfold eqBp mB
  refine decide_eq_false (fun h => ?_)
  have := h.2.2
  simp only [List.cons.injEq, and_true] at this
  omega
theorem mA_all (g : Nat → Nat) (b : Bp) (n : Nat) (hn : n ≤ 4096) : clR (nrA 0 (mA g b)) n = List.range n := clR_all _ _ (fun i j hj hi => mA_apart g b i j hj (by omega))
theorem mA_ok (g : Nat → Nat) (b : Bp) (hb : okB b = true) (n : Nat) (hn : n ≤ 4097) : allB (mA g b) n = true := by
  refine decide_eq_true (fun j hj => ?_)
  by_cases h : j < 4096
  · rw [mA_lt g b h]; exact (mB_good g h).1
  · obtain rfl : j = 4096 := by omega
    rw [mA_last]; exact hb
theorem range_getD {n c : Nat} (h : c < n) : (List.range n).getD c 0 = c := by
  rw [List.getD_eq_getElem?_getD, List.getElem?_range h]; rfl
/-- A white pixel is near none of them. -/
theorem mA_none (g : Nat → Nat) (b : Bp) (hb : b.x ≠ 12) : fnd (nrA 0 (mA g b)) (clR (nrA 0 (mA g b)) 4096) 4096 = none := by
  rw [mA_all g b 4096 (Nat.le_refl _)]
  unfold fnd
  rw [List.find?_eq_none, List.length_range]
  intro c hc
  have hc' := List.mem_range.1 hc
  rw [range_getD hc']
  unfold nrA nrB
  rw [mA_lt g b hc', mA_last]
  show ¬ (decide ((12 : Int) = b.x ∧ (1 : Int) = b.y) && _) = true
  rw [decide_eq_false (fun h => hb h.1.symm), Bool.false_and]
  decide
/-- The 77th again joins its own class. -/
theorem mA_joins (g : Nat → Nat) (b : Bp) (hg : Good b) (hx : b.x = 12) (hy : b.y = 1) (hl : b.l = [77 * 4503599627370496]) : fnd (nrA 0 (mA g b)) (clR (nrA 0 (mA g b)) 4096) 4096 = some 77 := by
  rw [mA_all g b 4096 (Nat.le_refl _)]
  have hq : ∀ c, c < 4096 → nrA 0 (mA g b) ((List.range 4096).getD c 0) 4096 = decide (c = 77) := fun c hc => by
    rw [range_getD hc]
    unfold nrA
    rw [mA_lt g b hc, mA_last, nrB_zero (by decide +kernel) (mB_good g hc) hg]
    unfold eqBp mB
    rw [hx, hy, hl, decide_eq_decide]
    simp only [List.cons.injEq, and_true, true_and]
    omega
  unfold fnd
  rw [List.length_range]
  have := find_at (q := fun c => nrA 0 (mA g b) ((List.range 4096).getD c 0) 4096) (F := List.range 4096) (k := 77) (by rw [List.length_range]; omega) (fun j hj => by
    have e : (List.range 4096).getD j 0 = j := range_getD (by omega)
    show nrA 0 (mA g b) ((List.range 4096).getD ((List.range 4096).getD j 0) 0) 4096 = false
    rw [e, hq j (by omega)]
    exact decide_eq_false (by omega)) (by
    have e : (List.range 4096).getD 77 0 = 77 := range_getD (by omega)
    show nrA 0 (mA g b) ((List.range 4096).getD ((List.range 4096).getD 77 0) 0) 4096 = true
    rw [e, hq 77 (by omega)]
    rfl)
  rw [range_getD (by omega : 77 < 4096)] at this
  exact this

/-- Bitmaps as cells of a row. -/
def bpC (A : Nat → Bp) : Nat → List Value
  | 0 => []
  | n + 1 => bpC A n ++ [.int .i64 (A n).x, .int .i64 (A n).y, (A n).v]
theorem length_bpC (A : Nat → Bp) : ∀ n, (bpC A n).length = n * 3
  | 0 => rfl
  | n + 1 => by
    show (bpC A n ++ _).length = _
    rw [List.length_append, length_bpC A n, List.length_cons, List.length_cons, List.length_cons, List.length_nil]; omega
theorem bpC_at (A : Nat → Bp) : ∀ n j, j < n → (bpC A n)[j * 3]? = some (.int .i64 (A j).x) ∧ (bpC A n)[j * 3 + 1]? = some (.int .i64 (A j).y) ∧ (bpC A n)[j * 3 + 2]? = some (A j).v
  | 0, j, h => absurd h (Nat.not_lt_zero _)
  | n + 1, j, h => by
    have hl := length_bpC A n
    show (bpC A n ++ _)[j * 3]? = _ ∧ (bpC A n ++ _)[j * 3 + 1]? = _ ∧ (bpC A n ++ _)[j * 3 + 2]? = _
    by_cases e : j = n
    · subst e
      rw [List.getElem?_append_right (by omega), List.getElem?_append_right (by omega), List.getElem?_append_right (by omega), hl, Nat.sub_self, Nat.add_sub_cancel_left, Nat.add_sub_cancel_left]
      exact ⟨rfl, rfl, rfl⟩
    · rw [List.getElem?_append_left (by omega), List.getElem?_append_left (by omega), List.getElem?_append_left (by omega)]
      exact bpC_at A n j (by omega)
theorem bpC_congr {A B : Nat → Bp} : ∀ n, (∀ j, j < n → A j = B j) → bpC A n = bpC B n
  | 0, _ => rfl
  | n + 1, h => by
    show bpC A n ++ _ = bpC B n ++ _
    rw [bpC_congr n (fun j hj => h j (by omega)), h n (by omega)]
theorem bps_row {w : World} {g n cap : Nat} {A : Nat → Bp} (h : w.ownsRow 0 27 3 (.slice (some ⟨g, 0, none⟩) n cap) n (bpC A n)) (hn : n ≤ 5000) (hk : ∀ j, j < n → BpOK w (A j)) : BpsAt w (some ⟨g, 0, none⟩) n A := by
  refine ⟨by omega, fun _ => ⟨g, 0, rfl, fun j hj => ?_⟩, hk⟩
  obtain ⟨a, b, c⟩ := bpC_at A n j hj
  rw [Nat.zero_add]
  exact ⟨(h.cellAt (j * 3) (by omega)).trans a, (h.cellAt (j * 3 + 1) (by omega)).trans b, (h.cellAt (j * 3 + 2) (by omega)).trans c⟩
end Go.Proofs.Ytodgdbbhllejkab
