/- 'CopyBitmap' of a bitmap that may be. -/
import Derived.Deep.RegionLaw
import Derived.Deep.AppendLies
import Derived.Test.YtkggdnkmaldmlabKRo
import Derived.Test.YtkggdnkmaldmlabK3
namespace Go.Proofs.Ytkggdnkmaldmlab
open Go.RowKit

theorem set3_cells {w : World} {o : Nat} {x y z : Value} {t : TypeId} (h : w.heap[o]? = some (.cells #[x, y, z] t (0, 0))) (a b c : Value) : (((w.setCell ⟨o, 0, none⟩ a).setCell ⟨o, 1, none⟩ b).setCell ⟨o, 2, none⟩ c).heap[o]? = some (.cells #[a, b, c] t (0, 0)) := by
  simp [World.setCell, Array.getElem?_modify, h]

end Go.Proofs.Ytkggdnkmaldmlab
