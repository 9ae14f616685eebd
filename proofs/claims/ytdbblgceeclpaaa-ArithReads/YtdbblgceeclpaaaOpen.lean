/- The arguments of the laws, opened. -/
import Derived.Test.YtdbblgceeclpaaaTwo
import Derived.Test.YtdbblgceeclpaaaRows
import Derived.Test.YtdbblgceeclpaaaChecked
import Derived.ProofKit
import Derived.OpenShut
import Derived.ChangeOld
import Derived.Lib.SmallJoins
import Derived.Deep.Slices
import Derived.Deep.Strs
namespace Go.Proofs.Ytdbblgceeclpaaa
open Go.ChangeShapes Go.WideShapes Go.ChangeAt Go.RowKit

theorem Try.own : ownKnob Try.prog.godebug = none := by kernel_rfl
theorem Try.laidOut : laidOutB Try.prog = true := by kernel_rfl
theorem Try.cells51 : Try.prog.cellsOf 51 = 2 := by kernel_rfl
theorem Try.cells56 : Try.prog.cellsOf 56 = 2 := by kernel_rfl
theorem Try.cells3 : Try.prog.cellsOf 3 = 1 := by kernel_rfl

theorem addr_add (b off j : Nat) : (⟨b, off, none⟩ : Addr).add j = ⟨b, off + j, none⟩ := by
  unfold Addr.add; split <;> simp_all

theorem dec_elem {H : Type} {enc : TypeId × Value → H} {W : World} {base n : Nat} {sp : Nat → Bool} {hd : Bool} {cs : List Value} {x : DataW H × List MemPlace} (h : DataW.trod enc Try.prog W base sp hd n 56 cs = some x) :
    ∃ (kd dd : Int), cs = [.int .i64 kd, .int .i64 dd] ∧ (-9223372036854775808 ≤ kd ∧ kd ≤ 9223372036854775807) ∧ (-9223372036854775808 ≤ dd ∧ dd ≤ 9223372036854775807) := by
  obtain ⟨y0, y1, m, _, hlen, t0, t1⟩ := trod_struct2 Try.underlying56 h
  rw [Try.cells56] at hlen
  obtain ⟨a, b, rfl⟩ : ∃ a b, cs = [a, b] := by
    match cs, hlen with
    | [a, b], _ => exact ⟨a, b, rfl⟩
  simp only [Try.cells3] at t0 t1
  obtain ⟨k0, e0, _, w0⟩ := DataW.trod_int Try.underlying3 t0
  obtain ⟨k1, e1, _, w1⟩ := DataW.trod_int Try.underlying3 t1
  simp at e0 e1
  subst e0; subst e1
  have b0 := bounds_i64 w0
  have b1 := bounds_i64 w1
  exact ⟨k0, k1, rfl, by omega, by omega⟩

theorem open_decs {H : Type} {enc : TypeId × Value → H} {W : World} {fuel : Nat} {sp : Nat → Bool} {hd : Bool} {v : Value} {x : DataW H × List MemPlace} (h : DataW.trod enc Try.prog W 0 sp hd fuel 49 [v] = some x) :
    ∃ ao n cap K D, v = .slice ao n cap ∧ DecsAt W ao n K D := by
  rcases Deep.open_slice Try.underlying49 h with ⟨hcs, _⟩ | ⟨a, len, cap, m, f, D, Pl, hcs, _, hlc, hmx, hm, _, hel⟩
  · simp at hcs
    exact ⟨none, 0, 0, fun _ => 0, fun _ => 0, hcs, by omega, by omega, by omega⟩
  · simp at hcs
    have hlm : len ≤ m := by rw [hm]; split <;> omega
    have hex : ∀ i, i < len → ∃ y : Int × Int, (W.cell? ((a.add (i * 2)).add 0) = some (.int .i64 y.1) ∧ W.cell? ((a.add (i * 2)).add 1) = some (.int .i64 y.2)) ∧
        (-9223372036854775808 ≤ y.1 ∧ y.1 ≤ 9223372036854775807) ∧ (-9223372036854775808 ≤ y.2 ∧ y.2 ≤ 9223372036854775807) := by
      intro i hi
      obtain ⟨cs', hc, ht⟩ := hel i (by omega)
      obtain ⟨kd, dd, rfl, b0, b1⟩ := dec_elem ht
      rw [Try.cells56] at hc
      have hcc := (World.cells?_some hc).2.2
      exact ⟨(kd, dd), ⟨hcc 0 (by omega), hcc 1 (by omega)⟩, b0, b1⟩
    obtain ⟨f, hf⟩ := Deep.choose_lt hex
    refine ⟨some a, len, cap, fun i => (f i).1, fun i => (f i).2, hcs, by unfold maxLen at hmx; omega, fun hn => ?_, fun i hi => (hf i hi).2⟩
    obtain ⟨b, off, spot⟩ := a
    have hspot : spot = none := by
      have := World.cell?_spot (hf 0 hn).1.1
      simpa [Addr.add] using this
    subst hspot
    refine ⟨b, off, rfl, fun j hj => ?_⟩
    have := (hf j hj).1
    rw [addr_add, addr_add, addr_add] at this
    exact this

theorem open_script {H : Type} {enc : TypeId × Value → H} {W : World} {base : Nat} {v0 : Value} {d0 : DataW H} {p0 : List MemPlace} (hv : Value.okWide Try.prog W .any base 51 v0) (h0 : DataW.Trod enc Try.prog W 0 (fun _ => true) true 51 v0 d0 p0) :
    ∃ mo ao n cap K D, v0 = .agg #[.int .i64 mo, .slice ao n cap] ∧ (-9223372036854775808 ≤ mo ∧ mo ≤ 9223372036854775807) ∧ DecsAt W ao n K D := by
  obtain ⟨c0, c1, y0, y1, m, rfl, _, _, hy0, hy1⟩ := Joins.open_agg2 Try.underlying51 (by kernel_rfl) Try.cells51 hv h0
  obtain ⟨mo, e0, _, w0⟩ := DataW.trod_int Try.underlying3 hy0
  simp at e0
  subst e0
  obtain ⟨ao, n, cap, K, D, rfl, ho⟩ := open_decs hy1
  have b0 := bounds_i64 w0
  exact ⟨mo, ao, n, cap, K, D, rfl, by omega, ho⟩

end Go.Proofs.Ytdbblgceeclpaaa
