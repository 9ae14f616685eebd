/- The document's own answer: a row of the table, the table. -/
import Derived.Test.YtllhekkclhcdbaaDoorK2
import Derived.BigQuiet
namespace Go.Proofs.YtllhekkclhcdbaaDoor
open Go.RowKit

def intCells (l : List Nat) : List Value := l.map fun (x : Nat) => Value.int .i64 x
theorem length_intCells (l : List Nat) : (intCells l).length = l.length := by simp [intCells]
theorem intCells_get (l : List Nat) (j : Nat) : (intCells l)[j]? = l[j]?.map fun (x : Nat) => Value.int .i64 x := by simp [intCells]
theorem intCells_set (l : List Nat) (j x : Nat) : (intCells l).set j (Value.int .i64 (x : Int)) = intCells (l.set j x) := by simp [intCells, List.map_set]
theorem intCells_getD (l : List Nat) (j : Nat) (hj : j < l.length) : (intCells l)[j]? = some (.int .i64 (l.getD j 0 : Nat)) := by
  rw [intCells_get, List.getD_eq_getElem?_getD, List.getElem?_eq_getElem hj]; rfl

def rowR (s : Nat) : List Value := [.int .i64 (rQ s : Nat), .int .i64 (rM s : Nat), .int .i64 (rL s : Nat), .bool (rS s)]

set_option maxRecDepth 100000 in
set_option maxHeartbeats 4000000 in
theorem rrow_at (w : World) (s : Nat) (hs : s < 47) (q m l : Nat) (b : Bool) (hr : IsRow s q m l b) :
    Calls Tryd.prog 75 #[.int .i64 (s : Nat)] w fun e w' => e = .returned (.agg #[.int .i64 q, .int .i64 m, .int .i64 l, .bool b]) ∧ Fr (fun _ => False) w w' := by
  have HR : Hid (IsRow s q m l b) := hr
  have HB : Hid (rS s = ((s == 0) || (s == 6) || (s == 14))) := rfl
  clear hr
  go_enter Tryd.func75, Tryd.ntmps75
  go_wp2_with fail
  generalize hW : World.alloc _ _ = wX
  have HX : Hid (wX = (((w.alloc (.cells #[.int .i64 0, .int .i64 0, .int .i64 0, .bool false] 117)).alloc (.cells (intCells qs).toArray 3)).alloc (.cells (intCells ms).toArray 3)).alloc (.cells (intCells ls).toArray 3)) := by rw [← hW]; exact rfl
  have hX := HX.out
  have oq : wX.ownsRow 0 3 1 (.slice (some ⟨w.heap.size + 1, 0, none⟩) 47 47) 47 (intCells qs) := by
    rw [hX]
    have := World.ownsRow_lit (base := 0) (e := 3) (size := 1) (w.alloc (.cells #[.int .i64 0, .int .i64 0, .int .i64 0, .bool false] 117)) (intCells qs).toArray 47 (Nat.zero_le _) (by decide) rfl
    rw [World.size_alloc] at this
    exact (this.alloc _).alloc _
  have om : wX.ownsRow 0 3 1 (.slice (some ⟨w.heap.size + 1 + 1, 0, none⟩) 47 47) 47 (intCells ms) := by
    rw [hX]
    have := World.ownsRow_lit (base := 0) (e := 3) (size := 1) ((w.alloc (.cells #[.int .i64 0, .int .i64 0, .int .i64 0, .bool false] 117)).alloc (.cells (intCells qs).toArray 3)) (intCells ms).toArray 47 (Nat.zero_le _) (by decide) rfl
    rw [World.size_alloc, World.size_alloc] at this
    exact this.alloc _
  have ol : wX.ownsRow 0 3 1 (.slice (some ⟨w.heap.size + 1 + 1 + 1, 0, none⟩) 47 47) 47 (intCells ls) := by
    rw [hX]
    have := World.ownsRow_lit (base := 0) (e := 3) (size := 1) (((w.alloc (.cells #[.int .i64 0, .int .i64 0, .int .i64 0, .bool false] 117)).alloc (.cells (intCells qs).toArray 3)).alloc (.cells (intCells ms).toArray 3)) (intCells ls).toArray 47 (Nat.zero_le _) (by decide) rfl
    rw [World.size_alloc, World.size_alloc, World.size_alloc] at this
    exact this
  have cq : wX.cell? ⟨w.heap.size + 1, s, none⟩ = some (.int .i64 q) := by
    rw [oq.cellAt s (by omega), intCells_getD qs s hs, HR.out.hq]; rfl
  have cm : wX.cell? ⟨w.heap.size + 1 + 1, s, none⟩ = some (.int .i64 m) := by
    rw [om.cellAt s (by omega), intCells_getD ms s hs, HR.out.hm]; rfl
  have cl : wX.cell? ⟨w.heap.size + 1 + 1 + 1, s, none⟩ = some (.int .i64 l) := by
    rw [ol.cellAt s (by omega), intCells_getD ls s hs, HR.out.hl]; rfl
  have hb : wX.heap[w.heap.size]? = some (.cells #[.int .i64 0, .int .i64 0, .int .i64 0, .bool false] 117 (0, 0)) := by
    rw [hX]
    have f : Fr (fun _ => False) (w.alloc (.cells #[.int .i64 0, .int .i64 0, .int .i64 0, .bool false] 117)) ((((w.alloc (.cells #[.int .i64 0, .int .i64 0, .int .i64 0, .bool false] 117)).alloc (.cells (intCells qs).toArray 3)).alloc (.cells (intCells ms).toArray 3)).alloc (.cells (intCells ls).toArray 3)) := (((Fr.refl _ _).alloc _).alloc _).alloc _
    rw [f.block w.heap.size (by simp) (fun hh => hh)]
    exact heap_alloc_new _ _
  have HF : Hid (Fr (fun _ => False) w wX) := by rw [hX]; exact ((((Fr.refl _ _).alloc _).alloc _).alloc _).alloc _
  have c0 : wX.cell? ⟨w.heap.size, 0, none⟩ = some (.int .i64 0) := by simp [World.cell?, hb]
  have c1 : wX.cell? ⟨w.heap.size, 1, none⟩ = some (.int .i64 0) := by simp [World.cell?, hb]
  have c2 : wX.cell? ⟨w.heap.size, 2, none⟩ = some (.int .i64 0) := by simp [World.cell?, hb]
  have c3 : wX.cell? ⟨w.heap.size, 3, none⟩ = some (.bool false) := by simp [World.cell?, hb]
  have cf : ∀ j, wX.frozen? ⟨w.heap.size, j, none⟩ = false := by intro j; simp [World.frozen?, hb]
  have HBK : Hid (wX.heap[w.heap.size]? = some (.cells #[.int .i64 0, .int .i64 0, .int .i64 0, .bool false] 117 (0, 0))) := hb
  clear hW oq om ol hX HX hb
  have HBS : Hid (b = ((s == 0) || (s == 6) || (s == 14))) := by show _ = _; rw [HR.out.hb]; exact HB.out
  have h1 : w.heap.size ≠ w.heap.size + 1 := by omega
  clear HB
  by_cases hs0 : s = 0
  · subst hs0
    have hbt : b = true := HBS.out
    subst hbt
    go_region
    go_wp2_with fail
    generalize hw4 : World.drew _ = w4
    have h4 : w4.heap[w.heap.size]? = some (.cells #[.int .i64 q, .int .i64 m, .int .i64 l, .bool true] 117 (0, 0)) := by
      rw [← hw4]
      exact (seven_set (seven_set (seven_set (seven_set HBK.out)))).trans rfl
    have r0 : w4.cell? ⟨w.heap.size, 0, none⟩ = some (.int .i64 q) := by simp [World.cell?, h4]
    have r1 : w4.cell? ⟨w.heap.size, 1, none⟩ = some (.int .i64 m) := by simp [World.cell?, h4]
    have r2 : w4.cell? ⟨w.heap.size, 2, none⟩ = some (.int .i64 l) := by simp [World.cell?, h4]
    have r3 : w4.cell? ⟨w.heap.size, 3, none⟩ = some (.bool true) := by simp [World.cell?, h4]
    refine bodyPost_ret (v := .agg #[.int .i64 q, .int .i64 m, .int .i64 l, .bool true]) (by simp [results, Tryd.results75, go_sem, r0, r1, r2, r3]) rfl ?_
    refine ⟨rfl, ?_⟩
    rw [← hw4]
    exact Fr.drew (Fr.setCell (Fr.setCell (Fr.setCell (Fr.setCell HF.out (fun hh => absurd hh (Nat.lt_irrefl _)) _) (fun hh => absurd hh (Nat.lt_irrefl _)) _) (fun hh => absurd hh (Nat.lt_irrefl _)) _) (fun hh => absurd hh (Nat.lt_irrefl _)) _)
  · have hz0 : ((s : Int) == 0) = false := by rw [beq_eq_false_iff_ne]; omega
    by_cases hs6 : s = 6
    · subst hs6
      have hbt : b = true := HBS.out
      subst hbt
      go_region
      go_wp2_with fail
      generalize hw4 : World.drew _ = w4
      have h4 : w4.heap[w.heap.size]? = some (.cells #[.int .i64 q, .int .i64 m, .int .i64 l, .bool true] 117 (0, 0)) := by
        rw [← hw4]
        exact (seven_set (seven_set (seven_set (seven_set HBK.out)))).trans rfl
      have r0 : w4.cell? ⟨w.heap.size, 0, none⟩ = some (.int .i64 q) := by simp [World.cell?, h4]
      have r1 : w4.cell? ⟨w.heap.size, 1, none⟩ = some (.int .i64 m) := by simp [World.cell?, h4]
      have r2 : w4.cell? ⟨w.heap.size, 2, none⟩ = some (.int .i64 l) := by simp [World.cell?, h4]
      have r3 : w4.cell? ⟨w.heap.size, 3, none⟩ = some (.bool true) := by simp [World.cell?, h4]
      refine bodyPost_ret (v := .agg #[.int .i64 q, .int .i64 m, .int .i64 l, .bool true]) (by simp [results, Tryd.results75, go_sem, r0, r1, r2, r3]) rfl ?_
      refine ⟨rfl, ?_⟩
      rw [← hw4]
      exact Fr.drew (Fr.setCell (Fr.setCell (Fr.setCell (Fr.setCell HF.out (fun hh => absurd hh (Nat.lt_irrefl _)) _) (fun hh => absurd hh (Nat.lt_irrefl _)) _) (fun hh => absurd hh (Nat.lt_irrefl _)) _) (fun hh => absurd hh (Nat.lt_irrefl _)) _)
    · have hz6 : ((s : Int) == 6) = false := by rw [beq_eq_false_iff_ne]; omega
      by_cases hs14 : s = 14
      · subst hs14
        have hbt : b = true := HBS.out
        subst hbt
        go_region
        go_wp2_with fail
        generalize hw4 : World.drew _ = w4
        have h4 : w4.heap[w.heap.size]? = some (.cells #[.int .i64 q, .int .i64 m, .int .i64 l, .bool true] 117 (0, 0)) := by
          rw [← hw4]
          exact (seven_set (seven_set (seven_set (seven_set HBK.out)))).trans rfl
        have r0 : w4.cell? ⟨w.heap.size, 0, none⟩ = some (.int .i64 q) := by simp [World.cell?, h4]
        have r1 : w4.cell? ⟨w.heap.size, 1, none⟩ = some (.int .i64 m) := by simp [World.cell?, h4]
        have r2 : w4.cell? ⟨w.heap.size, 2, none⟩ = some (.int .i64 l) := by simp [World.cell?, h4]
        have r3 : w4.cell? ⟨w.heap.size, 3, none⟩ = some (.bool true) := by simp [World.cell?, h4]
        refine bodyPost_ret (v := .agg #[.int .i64 q, .int .i64 m, .int .i64 l, .bool true]) (by simp [results, Tryd.results75, go_sem, r0, r1, r2, r3]) rfl ?_
        refine ⟨rfl, ?_⟩
        rw [← hw4]
        exact Fr.drew (Fr.setCell (Fr.setCell (Fr.setCell (Fr.setCell HF.out (fun hh => absurd hh (Nat.lt_irrefl _)) _) (fun hh => absurd hh (Nat.lt_irrefl _)) _) (fun hh => absurd hh (Nat.lt_irrefl _)) _) (fun hh => absurd hh (Nat.lt_irrefl _)) _)
      · have hz14 : ((s : Int) == 14) = false := by rw [beq_eq_false_iff_ne]; omega
        have hbt : b = false := by rw [HBS.out]; simp [hs0, hs6, hs14]
        subst hbt
        go_region
        go_wp2_with fail
        generalize hw4 : World.drew _ = w4
        have h4 : w4.heap[w.heap.size]? = some (.cells #[.int .i64 q, .int .i64 m, .int .i64 l, .bool false] 117 (0, 0)) := by
          rw [← hw4]
          exact (seven_set (seven_set (seven_set (seven_set HBK.out)))).trans rfl
        have r0 : w4.cell? ⟨w.heap.size, 0, none⟩ = some (.int .i64 q) := by simp [World.cell?, h4]
        have r1 : w4.cell? ⟨w.heap.size, 1, none⟩ = some (.int .i64 m) := by simp [World.cell?, h4]
        have r2 : w4.cell? ⟨w.heap.size, 2, none⟩ = some (.int .i64 l) := by simp [World.cell?, h4]
        have r3 : w4.cell? ⟨w.heap.size, 3, none⟩ = some (.bool false) := by simp [World.cell?, h4]
        refine bodyPost_ret (v := .agg #[.int .i64 q, .int .i64 m, .int .i64 l, .bool false]) (by simp [results, Tryd.results75, go_sem, r0, r1, r2, r3]) rfl ?_
        refine ⟨rfl, ?_⟩
        rw [← hw4]
        exact Fr.drew (Fr.setCell (Fr.setCell (Fr.setCell (Fr.setCell HF.out (fun hh => absurd hh (Nat.lt_irrefl _)) _) (fun hh => absurd hh (Nat.lt_irrefl _)) _) (fun hh => absurd hh (Nat.lt_irrefl _)) _) (fun hh => absurd hh (Nat.lt_irrefl _)) _)

end Go.Proofs.YtllhekkclhcdbaaDoor
