/- The arguments of the laws, opened. -/
import Derived.Test.YthfimeaajboihaaRoom
import Derived.ProofKit
import Derived.OpenShut
import Derived.ChangeOld
import Derived.Lib.SmallJoins
import Derived.Deep.Slices
import Derived.Deep.Strs
namespace Go.Proofs.Ythfimeaajboihaa
open Go.ChangeShapes Go.WideShapes Go.ChangeAt Go.RowKit

theorem Try.own : ownKnob Try.prog.godebug = none := by kernel_rfl
theorem Try.laidOut : laidOutB Try.prog = true := by kernel_rfl
theorem Try.cells24 : Try.prog.cellsOf 24 = 2 := by kernel_rfl
theorem Try.cells36 : Try.prog.cellsOf 36 = 3 := by kernel_rfl
theorem Try.cells3 : Try.prog.cellsOf 3 = 1 := by kernel_rfl
theorem Try.cells34 : Try.prog.cellsOf 34 = 1 := by kernel_rfl

theorem addr_add (b off j : Nat) : (⟨b, off, none⟩ : Addr).add j = ⟨b, off + j, none⟩ := by
  unfold Addr.add; split <;> simp_all

theorem op_elem {H : Type} {enc : TypeId × Value → H} {W : World} {base n : Nat} {sp : Nat → Bool} {hd : Bool} {cs : List Value} {x : DataW H × List MemPlace} (h : DataW.trod enc Try.prog W base sp hd n 36 cs = some x) :
    ∃ (kd : Int) (nn : Nat) (wd : Int), cs = [.int .i64 kd, .int .u64 nn, .int .i64 wd] ∧ (-9223372036854775808 ≤ kd ∧ kd ≤ 9223372036854775807) ∧ nn < 18446744073709551616 ∧ (-9223372036854775808 ≤ wd ∧ wd ≤ 9223372036854775807) := by
  obtain ⟨y0, y1, y2, m, _, hlen, t0, t1, t2⟩ := Deep.trod_struct3 Try.underlying36 h
  rw [Try.cells36] at hlen
  obtain ⟨a, b, c, rfl⟩ : ∃ a b c, cs = [a, b, c] := by
    match cs, hlen with
    | [a, b, c], _ => exact ⟨a, b, c, rfl⟩
  simp only [Try.cells3, Try.cells34] at t0 t1 t2
  obtain ⟨k0, e0, _, w0⟩ := DataW.trod_int Try.underlying3 t0
  obtain ⟨k1, e1, _, w1⟩ := DataW.trod_int Try.underlying34 t1
  obtain ⟨k2, e2, _, w2⟩ := DataW.trod_int Try.underlying3 t2
  simp at e0 e1 e2
  subst e0; subst e1; subst e2
  have b0 := bounds_i64 w0
  have b1 := bounds_u64 w1
  have b2 := bounds_i64 w2
  refine ⟨k0, k1.toNat, k2, ?_, by omega, by omega, by omega⟩
  rw [Int.toNat_of_nonneg (by omega)]

theorem open_ops {H : Type} {enc : TypeId × Value → H} {W : World} {fuel : Nat} {sp : Nat → Bool} {hd : Bool} {v : Value} {x : DataW H × List MemPlace} (h : DataW.trod enc Try.prog W 0 sp hd fuel 22 [v] = some x) :
    ∃ ao n cap K N D, v = .slice ao n cap ∧ OpsAt W ao n K N D := by
  rcases Deep.open_slice Try.underlying22 h with ⟨hcs, _⟩ | ⟨a, len, cap, m, f, D, Pl, hcs, _, hlc, hmx, hm, _, hel⟩
  · simp at hcs
    exact ⟨none, 0, 0, fun _ => 0, fun _ => 0, fun _ => 0, hcs, by omega, by omega, by omega⟩
  · simp at hcs
    have hlm : len ≤ m := by rw [hm]; split <;> omega
    have hex : ∀ i, i < len → ∃ y : Int × Nat × Int, (W.cell? ((a.add (i * 3)).add 0) = some (.int .i64 y.1) ∧ W.cell? ((a.add (i * 3)).add 1) = some (.int .u64 (y.2.1 : Int)) ∧ W.cell? ((a.add (i * 3)).add 2) = some (.int .i64 y.2.2)) ∧
        (-9223372036854775808 ≤ y.1 ∧ y.1 ≤ 9223372036854775807) ∧ y.2.1 < 18446744073709551616 ∧ (-9223372036854775808 ≤ y.2.2 ∧ y.2.2 ≤ 9223372036854775807) := by
      intro i hi
      obtain ⟨cs', hc, ht⟩ := hel i (by omega)
      obtain ⟨kd, nn, wd, rfl, b0, b1, b2⟩ := op_elem ht
      rw [Try.cells36] at hc
      have hcc := (World.cells?_some hc).2.2
      exact ⟨(kd, nn, wd), ⟨hcc 0 (by omega), hcc 1 (by omega), hcc 2 (by omega)⟩, b0, b1, b2⟩
    obtain ⟨f, hf⟩ := Deep.choose_lt hex
    refine ⟨some a, len, cap, fun i => (f i).1, fun i => (f i).2.1, fun i => (f i).2.2, hcs, by unfold maxLen at hmx; omega, fun hn => ?_, fun i hi => (hf i hi).2⟩
    obtain ⟨b, off, spot⟩ := a
    have hspot : spot = none := by
      have := World.cell?_spot (hf 0 hn).1.1
      simpa [Addr.add] using this
    subst hspot
    refine ⟨b, off, rfl, fun j hj => ?_⟩
    have := (hf j hj).1
    rw [addr_add, addr_add, addr_add, addr_add] at this
    exact this

theorem open_script {H : Type} {enc : TypeId × Value → H} {W : World} {base : Nat} {v0 : Value} {d0 : DataW H} {p0 : List MemPlace} (hv : Value.okWide Try.prog W .any base 24 v0) (h0 : DataW.Trod enc Try.prog W 0 (fun _ => true) true 24 v0 d0 p0) :
    ∃ mo ao n cap K N D, v0 = .agg #[.int .i64 mo, .slice ao n cap] ∧ (-9223372036854775808 ≤ mo ∧ mo ≤ 9223372036854775807) ∧ OpsAt W ao n K N D := by
  obtain ⟨c0, c1, y0, y1, m, rfl, _, _, hy0, hy1⟩ := Joins.open_agg2 Try.underlying24 (by kernel_rfl) Try.cells24 hv h0
  obtain ⟨mo, e0, _, w0⟩ := DataW.trod_int Try.underlying3 hy0
  simp at e0
  subst e0
  obtain ⟨ao, n, cap, K, N, D, rfl, ho⟩ := open_ops hy1
  have b0 := bounds_i64 w0
  exact ⟨mo, ao, n, cap, K, N, D, rfl, by omega, ho⟩

end Go.Proofs.Ythfimeaajboihaa
