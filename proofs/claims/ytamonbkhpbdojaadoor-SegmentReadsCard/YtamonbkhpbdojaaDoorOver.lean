/- 'Over': a list of bytes that was told is written over, and beyond its end. -/
import Derived.Test.YtamonbkhpbdojaaDoorRef3
namespace Go.Proofs.YtamonbkhpbdojaaDoor
set_option maxRecDepth 100000
open Go.RowKit

theorem cell_three_new (w : World) (a b c : Value) (t : TypeId) (j : Nat) (u : Value) (h : [a, b, c][j]? = some u) : (w.alloc (.cells #[a, b, c] t)).cell? ((⟨w.heap.size, 0, none⟩ : Addr).add j) = some u :=
  (World.ownsRow_lit (base := 0) (e := t) (size := 1) w #[a, b, c] 3 (Nat.zero_le _) (by decide) rfl).cells rfl j u h

end Go.Proofs.YtamonbkhpbdojaaDoor
