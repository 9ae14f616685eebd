/- Rows of different types are apart. -/
import Derived.Test.YtllhekkclhcdbaaDoorBackQ
namespace Go.Proofs.YtllhekkclhcdbaaDoor
open Go.RowKit

theorem row_ne {w : World} {b1 b2 e1 e2 s1 s2 n1 n2 g1 g2 : Nat} {v1 v2 : Value} {x1 x2 : List Value} (h1 : w.ownsRow b1 e1 s1 v1 n1 x1) (h2 : w.ownsRow b2 e2 s2 v2 n2 x2) (hv1 : v1.ownBlock = some g1) (hv2 : v2.ownBlock = some g2) (he : e1 ≠ e2) : g1 ≠ g2 := by
  intro e; subst e
  obtain ⟨c1, k1⟩ := row_type2 h1 hv1
  obtain ⟨c2, k2⟩ := row_type2 h2 hv2
  rw [k1] at k2
  simp at k2
  exact he k2.2
theorem row_nb {w : World} {b1 e1 s1 n1 g1 bc : Nat} {v1 : Value} {x1 : List Value} {cs : Array Value} {t : TypeId} (h1 : w.ownsRow b1 e1 s1 v1 n1 x1) (hv1 : v1.ownBlock = some g1) (hb : w.heap[bc]? = some (.cells cs t (0, 0))) (he : e1 ≠ t) : g1 ≠ bc := by
  intro e; subst e
  obtain ⟨c1, k1⟩ := row_type2 h1 hv1
  rw [hb] at k1
  simp at k1
  exact he k1.2.symm

end Go.Proofs.YtllhekkclhcdbaaDoor
