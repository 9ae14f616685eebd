/- Package whole: which row a number has, and its bits. -/
import Derived.Test.YtllhekkclhcdbaaDoorKWk
namespace Go.Proofs.YtllhekkclhcdbaaDoor
open Go.RowKit

def signOf (v : Int) (nn : Bool) : Nat := if nn then 1 else if v < 0 then 1 else 0
def amountOf (v : Int) (nn : Bool) : Nat := if nn then 0 else v.natAbs
theorem amountOf_le {v : Int} {nn : Bool} (h : mayP v nn = true) : amountOf v nn ≤ 2147483648 := by
  unfold mayP at h
  unfold amountOf
  split
  · omega
  · rename_i hn
    simp [hn] at h
    omega
theorem signOf_lt (v : Int) (nn : Bool) : signOf v nn < 2 := by unfold signOf; split <;> (try split) <;> omega

theorem parts_at (w : World) (v : Int) (nn : Bool) (hmay : mayP v nn = true) :
    Calls Tryd.prog 69 #[.agg #[.int .i64 v, .bool nn]] w fun e w' => e = .returned (.tuple #[.int .u64 (signOf v nn : Int), .int .u64 (amountOf v nn : Int)]) ∧ Fr (fun _ => False) w w' := by
  cases nn
  · have hb : -2147483648 ≤ v ∧ v ≤ 2147483648 := by simpa [mayP] using hmay
    by_cases h1 : v < 0
    · have hd1 : decide (v < 0) = true := decide_eq_true h1
      have k1 : IntKind.i64.wrap (-v) = -v := by rw [IntKind.wrap_i64]; omega
      have k2 : IntKind.u64.wrap (-v) = -v := by rw [IntKind.wrap_u64]; omega
      have Hs : Hid (signOf v false = 1) := by simp [signOf, h1, Hid]
      have Ha : Hid ((amountOf v false : Int) = -v) := by simp [amountOf, Hid]; omega
      clear hb h1 hmay
      go_enter Tryd.func69, Tryd.ntmps69
      go_wp2_with fail
      go_quiet (fail)
      go_wp2_with fail
      go_ret2
      exact ⟨by rw [Hs.out, Ha.out]; rfl, ((Fr.refl _ _).alloc _).drewN _⟩
    · have hd1 : decide (v < 0) = false := decide_eq_false h1
      have k2 : IntKind.u64.wrap v = v := by rw [IntKind.wrap_u64]; omega
      have Hs : Hid (signOf v false = 0) := by simp [signOf, h1, Hid]
      have Ha : Hid ((amountOf v false : Int) = v) := by simp [amountOf, Hid]; omega
      clear hb h1 hmay
      go_enter Tryd.func69, Tryd.ntmps69
      go_wp2_with fail
      go_quiet (fail)
      go_wp2_with fail
      go_ret2
      exact ⟨by rw [Hs.out, Ha.out]; rfl, ((Fr.refl _ _).alloc _).drewN _⟩
  · clear hmay
    go_enter Tryd.func69, Tryd.ntmps69
    go_wp2_with fail
    go_ret2
    exact ⟨rfl, (Fr.refl _ _).alloc _⟩

/-- The rows: least, head, the head's width, the width. -/
def rowL (k : Nat) : Nat := [0, 4, 20, 84, 340, 4436].getD k 0
def rowH (k : Nat) : Nat := [0, 2, 6, 14, 30, 31].getD k 0
def rowX (k : Nat) : Nat := [1, 2, 3, 4, 5, 5].getD k 0
def rowW (k : Nat) : Nat := [2, 4, 6, 8, 12, 32].getD k 0
def wRow (k : Nat) : Array Value := #[.int .u64 (rowL k : Int), .int .u64 (rowH k : Int), .int .i64 (rowX k : Int), .int .i64 (rowW k : Int)]
def rowsArr : Array Value := #[.int .u64 0, .int .u64 0, .int .i64 1, .int .i64 2, .int .u64 4, .int .u64 2, .int .i64 2, .int .i64 4, .int .u64 20, .int .u64 6, .int .i64 3, .int .i64 6, .int .u64 84, .int .u64 14, .int .i64 4, .int .i64 8, .int .u64 340, .int .u64 30, .int .i64 5, .int .i64 12, .int .u64 4436, .int .u64 31, .int .i64 5, .int .i64 32]
/-- The table of rows lies in block 0. -/
structure RowsAt (w : World) : Prop where
  blk : ∃ t x, w.heap[0]? = some (.cells rowsArr t x)
theorem RowsAt.lt {w : World} (h : RowsAt w) : 0 < w.heap.size := by
  obtain ⟨t, x, h⟩ := h.blk
  exact (Array.getElem?_eq_some_iff.1 h).1
theorem RowsAt.kept {w w' : World} {S : Nat → Prop} (h : RowsAt w) (f : Fr S w w') (h0 : ¬ S 0) : RowsAt w' := by
  obtain ⟨t, x, hb⟩ := h.blk
  exact ⟨t, x, (f.block 0 h.lt h0).trans hb⟩
theorem RowsAt.cells {w : World} (h : RowsAt w) : w.cell? ⟨0, 0, none⟩ = some (.int .u64 0) ∧ w.cell? ⟨0, 1, none⟩ = some (.int .u64 0) ∧ w.cell? ⟨0, 2, none⟩ = some (.int .i64 1) ∧ w.cell? ⟨0, 3, none⟩ = some (.int .i64 2) ∧ w.cell? ⟨0, 4, none⟩ = some (.int .u64 4) ∧ w.cell? ⟨0, 5, none⟩ = some (.int .u64 2) ∧ w.cell? ⟨0, 6, none⟩ = some (.int .i64 2) ∧ w.cell? ⟨0, 7, none⟩ = some (.int .i64 4) ∧ w.cell? ⟨0, 8, none⟩ = some (.int .u64 20) ∧ w.cell? ⟨0, 9, none⟩ = some (.int .u64 6) ∧ w.cell? ⟨0, 10, none⟩ = some (.int .i64 3) ∧ w.cell? ⟨0, 11, none⟩ = some (.int .i64 6) ∧ w.cell? ⟨0, 12, none⟩ = some (.int .u64 84) ∧ w.cell? ⟨0, 13, none⟩ = some (.int .u64 14) ∧ w.cell? ⟨0, 14, none⟩ = some (.int .i64 4) ∧ w.cell? ⟨0, 15, none⟩ = some (.int .i64 8) ∧ w.cell? ⟨0, 16, none⟩ = some (.int .u64 340) ∧ w.cell? ⟨0, 17, none⟩ = some (.int .u64 30) ∧ w.cell? ⟨0, 18, none⟩ = some (.int .i64 5) ∧ w.cell? ⟨0, 19, none⟩ = some (.int .i64 12) ∧ w.cell? ⟨0, 20, none⟩ = some (.int .u64 4436) ∧ w.cell? ⟨0, 21, none⟩ = some (.int .u64 31) ∧ w.cell? ⟨0, 22, none⟩ = some (.int .i64 5) ∧ w.cell? ⟨0, 23, none⟩ = some (.int .i64 32) := by
  obtain ⟨t, x, hb⟩ := h.blk
  refine ⟨?_, ?_, ?_, ?_, ?_, ?_, ?_, ?_, ?_, ?_, ?_, ?_, ?_, ?_, ?_, ?_, ?_, ?_, ?_, ?_, ?_, ?_, ?_, ?_⟩ <;> simp [World.cell?, hb, rowsArr]

/-- The row of an amount. -/
def rowIx (m : Nat) : Nat := if m < 4 then 0 else if m < 20 then 1 else if m < 84 then 2 else if m < 340 then 3 else if m < 4436 then 4 else 5
theorem rowIx_lt (m : Nat) : rowIx m < 6 := by
  unfold rowIx
  repeat' split
  all_goals omega
theorem rowL_le (m i : Nat) (hi : i < 6) : rowL i ≤ m ↔ i ≤ rowIx m := by
  unfold rowIx
  rcases (by omega : i = 0 ∨ i = 1 ∨ i = 2 ∨ i = 3 ∨ i = 4 ∨ i = 5) with rfl | rfl | rfl | rfl | rfl | rfl <;> simp only [rowL, List.getD_cons_zero, List.getD_cons_succ] <;> repeat' split
  all_goals omega

/-- A row of four in memory. -/
structure FAt (w : World) (b : Nat) (l h x y : Nat) : Prop where
  blk : w.heap[b]? = some (.cells #[.int .u64 (l : Int), .int .u64 (h : Int), .int .i64 (x : Int), .int .i64 (y : Int)] 121 (0, 0))
theorem FAt.cells {w : World} {b l h x y : Nat} (f : FAt w b l h x y) : w.cell? ⟨b, 0, none⟩ = some (.int .u64 (l : Int)) ∧ w.cell? ⟨b, 1, none⟩ = some (.int .u64 (h : Int)) ∧ w.cell? ⟨b, 2, none⟩ = some (.int .i64 (x : Int)) ∧ w.cell? ⟨b, 3, none⟩ = some (.int .i64 (y : Int)) ∧ w.frozen? ⟨b, 0, none⟩ = false ∧ w.frozen? ⟨b, 1, none⟩ = false ∧ w.frozen? ⟨b, 2, none⟩ = false ∧ w.frozen? ⟨b, 3, none⟩ = false := by
  have hb := f.blk
  refine ⟨?_, ?_, ?_, ?_, ?_, ?_, ?_, ?_⟩ <;> simp [World.cell?, World.frozen?, hb]
theorem FAt.lt {w : World} {b l h x y : Nat} (f : FAt w b l h x y) : b < w.heap.size := lt_of_block f.blk
theorem FAt.kept {w w' : World} {b l h x y : Nat} {S : Nat → Prop} (f : FAt w b l h x y) (g : Fr S w w') (h1 : ¬ S b) : FAt w' b l h x y := ⟨(g.block b f.lt h1).trans f.blk⟩
theorem FAt.set {w : World} {b l h x y : Nat} (f : FAt w b l h x y) (l' h' x' y' : Nat) : FAt ((((w.setCell ⟨b, 0, none⟩ (.int .u64 (l' : Int))).setCell ⟨b, 1, none⟩ (.int .u64 (h' : Int))).setCell ⟨b, 2, none⟩ (.int .i64 (x' : Int))).setCell ⟨b, 3, none⟩ (.int .i64 (y' : Int))) b l' h' x' y' := by
  have h0 := seven_set (j := 0) (u := .int .u64 (l' : Int)) f.blk
  have h1 := seven_set (j := 1) (u := .int .u64 (h' : Int)) h0
  have h2 := seven_set (j := 2) (u := .int .i64 (x' : Int)) h1
  have h3 := seven_set (j := 3) (u := .int .i64 (y' : Int)) h2
  exact ⟨h3⟩

theorem Fr.set4 {a b : World} {g : Nat} (h : Fr (fun k => k = g) a b) (x0 x1 x2 x3 : Value) : Fr (fun k => k = g) a ((((b.setCell ⟨g, 0, none⟩ x0).setCell ⟨g, 1, none⟩ x1).setCell ⟨g, 2, none⟩ x2).setCell ⟨g, 3, none⟩ x3) :=
  Fr.setCell (Fr.setCell (Fr.setCell (Fr.setCell h (p := ⟨g, 0, none⟩) (fun _ => rfl) _) (p := ⟨g, 1, none⟩) (fun _ => rfl) _) (p := ⟨g, 2, none⟩) (fun _ => rfl) _) (p := ⟨g, 3, none⟩) (fun _ => rfl) _

/-- Which row is found behind i rows. -/
def fnd (m i : Nat) (r : Nat → Nat) : Nat := if i = 0 then 0 else r (min (rowIx m) (i - 1))
theorem fnd_yes (m i : Nat) (r : Nat → Nat) (h : i ≤ rowIx m) : fnd m (i + 1) r = r i := by
  unfold fnd; rw [if_neg (by omega), show min (rowIx m) (i + 1 - 1) = i by omega]
theorem fnd_no (m i : Nat) (r : Nat → Nat) (h : ¬ i ≤ rowIx m) : fnd m (i + 1) r = fnd m i r := by
  unfold fnd; rw [if_neg (by omega), if_neg (by omega), show min (rowIx m) (i + 1 - 1) = min (rowIx m) (i - 1) by omega]
theorem fnd_all (m : Nat) (r : Nat → Nat) : fnd m 6 r = r (rowIx m) := by
  have := rowIx_lt m
  unfold fnd; rw [if_neg (by omega), show min (rowIx m) (6 - 1) = rowIx m by omega]

theorem rows_index (w : World) (i : Nat) (hi : i < 6) : (Instr.index 132 (.agg rowsArr) (.int .i64 (i : Int))).run Tryd.prog w = .ok (.agg #[.int .u64 (rowL i : Int), .int .u64 (rowH i : Int), .int .i64 (rowX i : Int), .int .i64 (rowW i : Int)]) w := by
  rcases (by omega : i = 0 ∨ i = 1 ∨ i = 2 ∨ i = 3 ∨ i = 4 ∨ i = 5) with rfl | rfl | rfl | rfl | rfl | rfl <;> kernel_rfl

set_option maxRecDepth 100000 in
set_option maxHeartbeats 2000000 in
theorem rowOf_at (w : World) (m : Nat) (hm : m < 18446744073709551616) (hr : RowsAt w) :
    Calls Tryd.prog 70 #[.int .u64 (m : Int)] w fun e w' => e = .returned (.agg (wRow (rowIx m))) ∧ Fr (fun _ => False) w w' := by
  have hf2 : Fr (fun _ => False) w ((w.alloc (.cells #[.int .u64 0, .int .u64 0, .int .i64 0, .int .i64 0] 121)).alloc (.cells #[.int .u64 0, .int .u64 0, .int .i64 0, .int .i64 0] 121)) := ((Fr.refl _ _).alloc _).alloc _
  have fa : FAt ((w.alloc (.cells #[.int .u64 0, .int .u64 0, .int .i64 0, .int .i64 0] 121)).alloc (.cells #[.int .u64 0, .int .u64 0, .int .i64 0, .int .i64 0] 121)) w.heap.size 0 0 0 0 := ⟨(Below.heap_alloc _ _ _ (by simp)).trans (heap_alloc_new w _)⟩
  have fb : FAt ((w.alloc (.cells #[.int .u64 0, .int .u64 0, .int .i64 0, .int .i64 0] 121)).alloc (.cells #[.int .u64 0, .int .u64 0, .int .i64 0, .int .i64 0] 121)) (w.heap.size + 1) 0 0 0 0 := ⟨by have := heap_alloc_new (w.alloc (.cells #[.int .u64 0, .int .u64 0, .int .i64 0, .int .i64 0] 121)) (.cells #[.int .u64 0, .int .u64 0, .int .i64 0, .int .i64 0] 121); rwa [World.size_alloc] at this⟩
  obtain ⟨tR, xR, hR⟩ := (hr.kept hf2 (fun h => h)).blk
  have HF : Hid (Fr (fun _ => False) w ((w.alloc (.cells #[.int .u64 0, .int .u64 0, .int .i64 0, .int .i64 0] 121)).alloc (.cells #[.int .u64 0, .int .u64 0, .int .i64 0, .int .i64 0] 121))) := hf2
  have HA : Hid (FAt ((w.alloc (.cells #[.int .u64 0, .int .u64 0, .int .i64 0, .int .i64 0] 121)).alloc (.cells #[.int .u64 0, .int .u64 0, .int .i64 0, .int .i64 0] 121)) w.heap.size 0 0 0 0) := fa
  have HB : Hid (FAt ((w.alloc (.cells #[.int .u64 0, .int .u64 0, .int .i64 0, .int .i64 0] 121)).alloc (.cells #[.int .u64 0, .int .u64 0, .int .i64 0, .int .i64 0] 121)) (w.heap.size + 1) 0 0 0 0) := fb
  have Hm : Hid (m < 18446744073709551616) := hm
  clear hf2 fa fb hm hr
  go_enter Tryd.func70, Tryd.ntmps70
  go_wp2_with (refine wpList_load_row rfl 132 _ rfl 0 (by rfl) tR rowsArr xR _ hR Tryd.underlying132 rfl (by kernel_rfl) ?_)
  go_loopw [8] (fun p wr => ∃ i : Nat, i ≤ 6 ∧ p = .int .i64 (i : Int) ∧ FAt wr w.heap.size 0 0 0 0 ∧ FAt wr (w.heap.size + 1) (fnd m i rowL) (fnd m i rowH) (fnd m i rowX) (fnd m i rowW) ∧ Fr (fun _ => False) w wr)
    (fun p _ => (6 - intOf p).toNat)
  case atStart => exact ⟨0, by omega, rfl, HA.out, HB.out, HF.out⟩
  case round =>
    obtain ⟨i, hi, rfl, ha, hb, hfr⟩ := hrel
    clear hR HA HB HF
    by_cases h6 : i < 6
    · have hd : decide ((i : Int) < 6) = true := decide_eq_true (by omega)
      have hix := rows_index wr i h6
      obtain ⟨l, hl⟩ : ∃ l, rowL i = l := ⟨_, rfl⟩
      obtain ⟨h, hh⟩ : ∃ h, rowH i = h := ⟨_, rfl⟩
      obtain ⟨x, hx⟩ : ∃ x, rowX i = x := ⟨_, rfl⟩
      obtain ⟨y, hy⟩ : ∃ y, rowW i = y := ⟨_, rfl⟩
      rw [hl, hh, hx, hy] at hix
      have Hrow : Hid (rowL i = l ∧ rowH i = h ∧ rowX i = x ∧ rowW i = y) := ⟨hl, hh, hx, hy⟩
      have Hle : Hid (l ≤ m ↔ i ≤ rowIx m) := by rw [← hl]; exact rowL_le m i h6
      have hw1 : IntKind.i64.wrap ((i : Int) + 1) = (i : Int) + 1 := by rw [IntKind.wrap_i64]; omega
      have HA : Hid (FAt wr w.heap.size 0 0 0 0) := ha
      have HB : Hid (FAt wr (w.heap.size + 1) (fnd m i rowL) (fnd m i rowH) (fnd m i rowX) (fnd m i rowW)) := hb
      have HF : Hid (Fr (fun _ => False) w wr) := hfr
      have H6 : Hid (i < 6) := h6
      have hne : (w.heap.size + 1 == wr.heap.size) = false := by have := hb.lt; simp; omega
      have hbn := (hb.kept (Fr.alloc (Fr.refl (fun _ => False) wr) (.cells #[.int .u64 (l : Int), .int .u64 (h : Int), .int .i64 (x : Int), .int .i64 (y : Int)] 121)) (fun h => h))
      have HBn : Hid (FAt (wr.alloc (.cells #[.int .u64 (l : Int), .int .u64 (h : Int), .int .i64 (x : Int), .int .i64 (y : Int)] 121)) (w.heap.size + 1) (fnd m i rowL) (fnd m i rowH) (fnd m i rowX) (fnd m i rowW)) := hbn
      obtain ⟨b0, b1, b2, b3, g0, g1, g2, g3⟩ := hbn.cells
      clear hl hh hx hy ha hb hfr hbn h6 hi
      by_cases hlm : l ≤ m
      · have hd2 : decide (l ≤ m) = true := decide_eq_true hlm
        have Hlm : Hid (l ≤ m) := hlm
        clear hlm
        go_wp2_with fail
        go_roundw
        case rel =>
          have hi := Hle.out.1 Hlm.out
          obtain ⟨q1, q2, q3, q4⟩ := Hrow.out
          have hf := HBn.out.set l h x y
          refine ⟨i + 1, by have := H6.out; omega, by push_cast; rfl, ?_, ?_, ?_⟩
          · refine HA.out.kept (S := fun k => k = w.heap.size + 1) ?_ (by omega)
            exact Fr.set4 (Fr.alloc (Fr.refl _ _) _) _ _ _ _
          · rw [fnd_yes _ _ _ hi, fnd_yes _ _ _ hi, fnd_yes _ _ _ hi, fnd_yes _ _ _ hi, q1, q2, q3, q4]
            exact hf
          · refine Fr.trans (T := fun k => k = w.heap.size + 1) HF.out ?_ (fun k hk e => by omega)
            exact Fr.set4 (Fr.alloc (Fr.refl _ _) _) _ _ _ _
        case measure => have := H6.out; simp [intOf]; omega
      · have hd2 : decide (l ≤ m) = false := decide_eq_false hlm
        have Hlm : Hid (¬ l ≤ m) := hlm
        clear hlm
        go_wp2_with fail
        go_roundw
        case rel =>
          have hi : ¬ i ≤ rowIx m := fun e => Hlm.out (Hle.out.2 e)
          refine ⟨i + 1, by have := H6.out; omega, by push_cast; rfl, ?_, ?_, ?_⟩
          · exact HA.out.kept (Fr.alloc (Fr.refl (fun _ => False) wr) _) (fun h => h)
          · rw [fnd_no _ _ _ hi, fnd_no _ _ _ hi, fnd_no _ _ _ hi, fnd_no _ _ _ hi]
            exact HBn.out
          · exact Fr.alloc HF.out _
        case measure => have := H6.out; simp [intOf]; omega
    · obtain rfl : i = 6 := by omega
      have q1 := fnd_all m rowL
      have q2 := fnd_all m rowH
      have q3 := fnd_all m rowX
      have q4 := fnd_all m rowW
      rw [q1, q2, q3, q4] at hb
      obtain ⟨a0, a1, a2, a3, f0, f1, f2, f3⟩ := ha.cells
      obtain ⟨b0, b1, b2, b3, g0, g1, g2, g3⟩ := hb.cells
      have HS := (ha.set (rowL (rowIx m)) (rowH (rowIx m)) (rowX (rowIx m)) (rowW (rowIx m)))
      have HSh : Hid _ := HS
      have HF : Hid (Fr (fun _ => False) w wr) := hfr
      clear ha hb hfr q1 q2 q3 q4 h6 hi HS
      go_wp2_with fail
      refine bodyPost_ret (results_cell_row rfl _ _ w.heap.size 121 _ (0, 0) _ rfl HSh.out.blk Tryd.underlying121 rfl (by kernel_rfl)) rfl ?_
      refine ⟨rfl, ?_⟩
      refine Fr.trans (T := fun k => k = w.heap.size) HF.out ?_ (fun k hk e => by omega)
      exact Fr.set4 (Fr.refl _ _) _ _ _ _

end Go.Proofs.YtllhekkclhcdbaaDoor
