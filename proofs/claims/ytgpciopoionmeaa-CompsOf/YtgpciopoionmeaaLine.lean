/- What 'lay' stands on: lines of words, operations. -/
import Derived.Test.YtgpciopoionmeaaPaint
import Derived.Deep.RegionHeld3
namespace Go.Proofs.Ytgpciopoionmeaa
open Go.RowKit

theorem cell_of_three {w : World} {b : Nat} {x y z : Value} {t : TypeId} (h : w.heap[b]? = some (.cells #[x, y, z] t (0, 0))) :
    w.cell? ⟨b, 0, none⟩ = some x ∧ w.cell? ⟨b, 1, none⟩ = some y ∧ w.cell? ⟨b, 2, none⟩ = some z ∧ (∀ j, w.frozen? ⟨b, j, none⟩ = false) := by
  refine ⟨?_, ?_, ?_, fun j => ?_⟩ <;> simp [World.cell?, World.frozen?, h]


end Go.Proofs.Ytgpciopoionmeaa
