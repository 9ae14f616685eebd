/- The arguments of the laws, opened. -/
import Derived.Test.YtefeimccoffkkaaEi
import Derived.ProofKit
import Derived.OpenShut
import Derived.ChangeOld
import Derived.Lib.SmallJoins
import Derived.Deep.Slices
import Derived.Deep.Strs
namespace Go.Proofs.Ytefeimccoffkkaa
open Go.ChangeShapes Go.WideShapes Go.ChangeAt Go.RowKit

theorem Try.own : ownKnob Try.prog.godebug = none := by kernel_rfl
theorem Try.laidOut : laidOutB Try.prog = true := by kernel_rfl
theorem Try.cells24 : Try.prog.cellsOf 24 = 2 := by kernel_rfl

theorem addr_add (b off j : Nat) : (⟨b, off, none⟩ : Addr).add j = ⟨b, off + j, none⟩ := by
  unfold Addr.add; split <;> simp_all

theorem open_is {H : Type} {enc : TypeId × Value → H} {W : World} {fuel : Nat} {sp : Nat → Bool} {hd : Bool} {v : Value} {x : DataW H × List MemPlace} (h : DataW.trod enc Try.prog W 0 sp hd fuel 22 [v] = some x) :
    ∃ ao n cap X, v = .slice ao n cap ∧ IntsAt W ao n X := by
  rcases open_ints Try.underlying22 Try.underlying3 (by kernel_rfl) h with ⟨hcs, _⟩ | ⟨x, l, c, zs, hcs, _, hl, hm, hz, _, hcell, hwz⟩
  · simp at hcs
    exact ⟨none, 0, 0, fun _ => 0, hcs, by omega, by omega, by omega⟩
  · simp at hcs
    have hlz : l ≤ zs.length := by
      have := hz
      split at this <;> omega
    have hb : ∀ j, j < l → -9223372036854775808 ≤ zs.getD j 0 ∧ zs.getD j 0 ≤ 9223372036854775807 := fun j hj => by
      have hmem : zs.getD j 0 ∈ zs := by
        rw [List.getD_eq_getElem?_getD, List.getElem?_eq_getElem (by omega)]; exact List.getElem_mem _
      exact bounds_i64 (hwz _ hmem)
    refine ⟨some x, l, c, fun j => zs.getD j 0, hcs, by unfold maxLen at hm; omega, fun hn => ?_, hb⟩
    obtain ⟨b, off, spot⟩ := x
    have hspot : spot = none := by
      have := World.cell?_spot (hcell 0 (by omega))
      simpa [Addr.add] using this
    subst hspot
    refine ⟨b, off, rfl, fun j hj => ?_⟩
    have h1 := hcell j (by omega)
    rw [addr_add] at h1
    exact h1

theorem open_sizes {H : Type} {enc : TypeId × Value → H} {W : World} {base : Nat} {v0 : Value} {d0 : DataW H} {p0 : List MemPlace} (hv : Value.okWide Try.prog W .any base 24 v0) (h0 : DataW.Trod enc Try.prog W 0 (fun _ => true) true 24 v0 d0 p0) :
    ∃ ao n ca X bo m cb Y, v0 = .agg #[.slice ao n ca, .slice bo m cb] ∧ IntsAt W ao n X ∧ IntsAt W bo m Y := by
  obtain ⟨c0, c1, y0, y1, m, rfl, _, _, hy0, hy1⟩ := Joins.open_agg2 Try.underlying24 (by kernel_rfl) Try.cells24 hv h0
  obtain ⟨ao, n, ca, X, rfl, h1⟩ := open_is hy0
  obtain ⟨bo, m, cb, Y, rfl, h2⟩ := open_is hy1
  exact ⟨ao, n, ca, X, bo, m, cb, Y, rfl, h1, h2⟩

end Go.Proofs.Ytefeimccoffkkaa
