/- 'CopyBitmap' of a bitmap that may be. -/
import Derived.Deep.Cut
import Derived.Deep.CutRange
import Derived.Deep.Light
import Derived.Deep.RegionHeld3
import Derived.Deep.RegionWith
import Derived.Deep.RegionLaw
import Derived.Deep.AppendLies
import Derived.Test.YtgpciopoionmeaaBm
import Derived.Test.YtgpciopoionmeaaRefPut
namespace Go.Proofs.Ytgpciopoionmeaa
open Go.RowKit

theorem set3_cells {w : World} {o : Nat} {x y z : Value} {t : TypeId} (h : w.heap[o]? = some (.cells #[x, y, z] t (0, 0))) (a b c : Value) : (((w.setCell ⟨o, 0, none⟩ a).setCell ⟨o, 1, none⟩ b).setCell ⟨o, 2, none⟩ c).heap[o]? = some (.cells #[a, b, c] t (0, 0)) := by
  simp [World.setCell, Array.getElem?_modify, h]

theorem blkUp {w : World} {o : Nat} {B : Obj} (h : w.heap[o]? = some B) (x : Obj) : (w.alloc x).heap[o]? = some B := by rw [Below.heap_alloc _ _ _ (lt_of_block h)]; exact h
theorem blkSame {w : World} {o : Nat} {u : Value} (h : w.heap[o]? = some (.cells #[.int .i64 0] 3 (0, 0))) : (w.setCell ⟨o, 0, none⟩ u).heap[o]? = some (.cells #[u] 3 (0, 0)) := one_setCell h
theorem blkOther {w : World} {o k : Nat} {B : Obj} (hk : o ≠ k) (h : w.heap[o]? = some B) (u : Value) : (w.setCell ⟨k, 0, none⟩ u).heap[o]? = some B := by rw [heap_setCell_other _ _ _ _ hk]; exact h
theorem frSet {w w' : World} {k : Nat} (h : w.heap.size ≤ k) (f : Fr (fun _ => False) w w') (u : Value) : Fr (fun _ => False) w (w'.setCell ⟨k, 0, none⟩ u) := Fr.setCell f (fun hh => absurd hh (Nat.not_lt.2 h)) u
theorem blkDrew {w : World} {o : Nat} {B : Obj} (h : w.heap[o]? = some B) : w.drew.heap[o]? = some B := h
theorem blkOld {w w' : World} {o : Nat} {B : Obj} (f : Fr (fun _ => False) w w') (h : w.heap[o]? = some B) : w'.heap[o]? = some B := by rw [f.block o (lt_of_block h) (fun hh => hh)]; exact h
theorem Fr.cells {a b : World} (h : Fr (fun _ => False) a b) : ∀ (o k : Nat), o < a.heap.size → b.cell? ⟨o, k, none⟩ = a.cell? ⟨o, k, none⟩ := fun _ _ ho => h.cellEq ho (fun hh => hh)
theorem Fr.frozens {a b : World} (h : Fr (fun _ => False) a b) : ∀ (o k : Nat), o < a.heap.size → b.frozen? ⟨o, k, none⟩ = a.frozen? ⟨o, k, none⟩ := fun o k ho => by
  unfold World.frozen?
  rw [h.block o ho (fun hh => hh)]

end Go.Proofs.Ytgpciopoionmeaa
