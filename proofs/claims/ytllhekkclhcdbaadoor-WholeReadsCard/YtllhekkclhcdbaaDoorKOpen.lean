/- The table of rows, as the card lays it; arguments opened. -/
import Derived.Test.YtllhekkclhcdbaaDoorKEn
import Derived.Test.YtllhekkclhcdbaaDoorTie
import Derived.Test.YtllhekkclhcdbaaDoorCards
import Derived.LaidMore
import Derived.Stop.Joined
import Derived.SevenTiedAt
import Derived.ProofKit
import Derived.OpenShut
import Derived.ChangeOld
import Derived.Lib.SmallJoins
import Derived.Deep.Slices
import Derived.Deep.Strs
namespace Go.Proofs.YtllhekkclhcdbaaDoor
open Go.ChangeShapes Go.WideShapes Go.ChangeAt Go.RowKit

theorem Tryd.own : ownKnob Tryd.prog.godebug = none := by kernel_rfl
theorem Tryd.laidOut : laidOutB Tryd.prog = true := by kernel_rfl
theorem Tryd.cells46 : Tryd.prog.cellsOf 46 = 2 := by kernel_rfl
theorem Tryd.cells121 : Tryd.prog.cellsOf 121 = 4 := by kernel_rfl
theorem Tryd.cells2 : Tryd.prog.cellsOf 2 = 1 := by kernel_rfl
theorem Tryd.cells3 : Tryd.prog.cellsOf 3 = 1 := by kernel_rfl
theorem Tryd.cells4 : Tryd.prog.cellsOf 4 = 1 := by kernel_rfl
theorem Tryd.cells93 : Tryd.prog.cellsOf 93 = 1 := by kernel_rfl

theorem addr_add (b off j : Nat) : (⟨b, off, none⟩ : Addr).add j = ⟨b, off + j, none⟩ := by
  unfold Addr.add; split <;> simp_all

theorem list2 {α : Type} : ∀ {l : List α}, l.length = 2 → ∃ a b, l = [a, b]
  | [a, b], _ => ⟨a, b, rfl⟩
theorem list4 {α : Type} : ∀ {l : List α}, l.length = 4 → ∃ a b c d, l = [a, b, c, d]
  | [a, b, c, d], _ => ⟨a, b, c, d, rfl⟩

theorem gRows : Tryd.prog.globalNamed "burin/whole.rows" = some 0 := by kernel_rfl
theorem tRows : (Tryd.prog.globals[0]?).map (·.type) = some 132 := by kernel_rfl
def rowAgg (k : Nat) : DataW Unit := .agg [.lit (.int .u64 (rowL k : Int)), .lit (.int .u64 (rowH k : Int)), .lit (.int .i64 (rowX k : Int)), .lit (.int .i64 (rowW k : Int))]
theorem laid_rows : (Rows.laid_burin_whole_rows : DataW Unit) = .agg [rowAgg 0, rowAgg 1, rowAgg 2, rowAgg 3, rowAgg 4, rowAgg 5] := rfl

theorem of_laid {W : World} (h : laidMetH Tryd.prog Rows.wholeNoneRow.laid W) : RowsAt W := by
  rw [MakeChecks.laidMetH_plain _ _ _ (by kernel_rfl)] at h
  obtain ⟨ps, ⟨g0, t0, cs0, f0, p0, q0, hg0, ht0, hv0, hd0, _, _⟩, _, _⟩ := h
  obtain rfl := Option.some.inj (gRows.symm.trans hg0)
  obtain rfl := Option.some.inj (tRows.symm.trans ht0)
  obtain ⟨xs, m1, h1, h2, h3, h4, hel⟩ := DataW.trod_array Tryd.underlying132 hd0
  have hmap : xs.map (fun x => x.fst) = [rowAgg 0, rowAgg 1, rowAgg 2, rowAgg 3, rowAgg 4, rowAgg 5] := by
    have := congrArg Prod.fst h2
    rw [laid_rows] at this
    simp only [DataW.agg.injEq] at this
    exact this.symm
  have key : ∀ i, i < 6 → (cs0.toList.drop (i * 4)).take 4 = [.int .u64 (rowL i : Int), .int .u64 (rowH i : Int), .int .i64 (rowX i : Int), .int .i64 (rowW i : Int)] := by
    intro i hi
    have h5 := hel i hi
    rw [Tryd.cells121, List.getElem?_eq_getElem (by omega)] at h5
    have hx : xs[i].1 = rowAgg i := by
      have h6 := congrArg (fun l => l[i]?) hmap
      simp only [List.getElem?_map, List.getElem?_eq_getElem (show i < xs.length by omega), Option.map_some] at h6
      rcases (by omega : i = 0 ∨ i = 1 ∨ i = 2 ∨ i = 3 ∨ i = 4 ∨ i = 5) with rfl | rfl | rfl | rfl | rfl | rfl <;> exact Option.some.inj h6
    obtain ⟨y0, y1, y2, y3, n, hx2, hl, e0, e1, e2, e3⟩ := Joins.trod_struct4 Tryd.underlying121 h5
    rw [Tryd.cells121] at hl
    generalize (cs0.toList.drop (i * 4)).take 4 = cs at *
    obtain ⟨a, b, c, d, rfl⟩ := list4 hl
    simp only [Tryd.cells3, Tryd.cells93] at e0 e1 e2 e3
    obtain ⟨k0, f0, g0, _⟩ := DataW.trod_int Tryd.underlying93 e0
    obtain ⟨k1, f1, g1, _⟩ := DataW.trod_int Tryd.underlying93 e1
    obtain ⟨k2, f2, g2, _⟩ := DataW.trod_int Tryd.underlying3 e2
    obtain ⟨k3, f3, g3, _⟩ := DataW.trod_int Tryd.underlying3 e3
    rw [hx2] at hx
    rw [g0, g1, g2, g3] at hx
    simp [rowAgg] at hx f0 f1 f2 f3
    obtain ⟨q0, q1, q2, q3⟩ := hx
    rw [f0, f1, f2, f3, q0, q1, q2, q3]
  have hlen : cs0.toList.length = 24 := by rw [h3]; kernel_rfl
  have chunk : ∀ k, cs0.toList.drop k = (cs0.toList.drop k).take 4 ++ cs0.toList.drop (k + 4) := by
    intro k
    rw [← List.drop_drop]
    exact (List.take_append_drop 4 _).symm
  have hall : cs0.toList = rowsArr.toList := by
    have c0 : cs0.toList = (cs0.toList.drop 0).take 4 ++ cs0.toList.drop 4 := chunk 0
    have c1 : cs0.toList.drop 4 = (cs0.toList.drop 4).take 4 ++ cs0.toList.drop 8 := chunk 4
    have c2 : cs0.toList.drop 8 = (cs0.toList.drop 8).take 4 ++ cs0.toList.drop 12 := chunk 8
    have c3 : cs0.toList.drop 12 = (cs0.toList.drop 12).take 4 ++ cs0.toList.drop 16 := chunk 12
    have c4 : cs0.toList.drop 16 = (cs0.toList.drop 16).take 4 ++ cs0.toList.drop 20 := chunk 16
    have c5 : cs0.toList.drop 20 = (cs0.toList.drop 20).take 4 ++ cs0.toList.drop 24 := chunk 20
    have k0 := key 0 (by omega)
    have k1 := key 1 (by omega)
    have k2 := key 2 (by omega)
    have k3 := key 3 (by omega)
    have k4 := key 4 (by omega)
    have k5 := key 5 (by omega)
    simp only [Nat.zero_mul, Nat.one_mul, Nat.reduceMul] at k0 k1 k2 k3 k4 k5
    rw [k0] at c0
    rw [k1] at c1
    rw [k2] at c2
    rw [k3] at c3
    rw [k4] at c4
    rw [k5, List.drop_eq_nil_of_le (by omega : cs0.toList.length ≤ 24)] at c5
    rw [c0, c1, c2, c3, c4, c5]
    rfl
  have hcs : cs0 = rowsArr := Array.toList_inj.1 hall
  simp only [World.var?, hg0, Option.bind_some] at hv0
  split at hv0
  · rename_i cs ty ex hb
    cases hv0
    exact ⟨_, _, by rw [← hcs]; exact hb⟩
  · cases hv0

theorem num_elem {H : Type} {enc : TypeId × Value → H} {W : World} {base n : Nat} {sp : Nat → Bool} {hd : Bool} {cs : List Value} {x : DataW H × List MemPlace} (h : DataW.trod enc Tryd.prog W base sp hd n 46 cs = some x) :
    ∃ (v : Int) (nn : Bool), cs = [.int .i64 v, .bool nn] ∧ (-9223372036854775808 ≤ v ∧ v ≤ 9223372036854775807) := by
  obtain ⟨y0, y1, m, _, hlen, t0, t1⟩ := trod_struct2 Tryd.underlying46 h
  rw [Tryd.cells46] at hlen
  obtain ⟨a, b, rfl⟩ := list2 hlen
  simp only [Tryd.cells2, Tryd.cells4] at t0 t1
  obtain ⟨k0, e0, _, w0⟩ := DataW.trod_int Tryd.underlying2 t0
  obtain ⟨k1, e1, _⟩ := DataW.trod_bool Tryd.underlying4 t1
  simp at e0 e1
  subst e0; subst e1
  have b0 := bounds_i64 w0
  exact ⟨k0, k1, rfl, by omega⟩

theorem open_nums0 {H : Type} {enc : TypeId × Value → H} {W : World} {fuel : Nat} {sp : Nat → Bool} {hd : Bool} {v : Value} {x : DataW H × List MemPlace} (h : DataW.trod enc Tryd.prog W 0 sp hd fuel 22 [v] = some x) :
    ∃ ao n cap V N, v = .slice ao n cap ∧ NumsAt W ao n V N := by
  rcases Deep.open_slice Tryd.underlying22 h with ⟨hcs, _⟩ | ⟨a, len, cap, m, f, D, Pl, hcs, _, hlc, hmx, hm, _, hel⟩
  · simp at hcs
    exact ⟨none, 0, 0, fun _ => 0, fun _ => false, hcs, by omega, by omega⟩
  · simp at hcs
    have hlm : len ≤ m := by rw [hm]; split <;> omega
    have hex : ∀ i, i < len → ∃ y : Int × Bool, W.cell? ((a.add (i * 2)).add 0) = some (.int .i64 y.1) ∧ W.cell? ((a.add (i * 2)).add 1) = some (.bool y.2) := by
      intro i hi
      obtain ⟨cs', hc, ht⟩ := hel i (by omega)
      obtain ⟨kd, dd, rfl, b0⟩ := num_elem ht
      rw [Tryd.cells46] at hc
      have hcc := (World.cells?_some hc).2.2
      exact ⟨(kd, dd), hcc 0 (by omega), hcc 1 (by omega)⟩
    obtain ⟨f, hf⟩ := Deep.choose_lt hex
    refine ⟨some a, len, cap, fun i => (f i).1, fun i => (f i).2, hcs, by unfold maxLen at hmx; omega, fun hn => ?_⟩
    obtain ⟨b, off, spot⟩ := a
    have hspot : spot = none := by
      have := World.cell?_spot (hf 0 hn).1
      simpa [Addr.add] using this
    subst hspot
    refine ⟨b, off, rfl, fun j hj => ?_⟩
    have := hf j hj
    rw [addr_add, addr_add, addr_add] at this
    exact this

set_option maxRecDepth 100000 in
theorem open_nums {H : Type} {enc : TypeId × Value → H} {W : World} {base : Nat} {v0 : Value} {d0 : DataW H} {p0 : List MemPlace} (hv : Value.okWide Tryd.prog W .any base 22 v0) (h0 : DataW.Trod enc Tryd.prog W 0 (fun _ => true) true 22 v0 d0 p0) :
    ∃ ao n cap V N, v0 = .slice ao n cap ∧ NumsAt W ao n V N := by
  obtain ⟨a0, len0, cap0, rfl⟩ := okWide_slice Tryd.underlying22 hv
  obtain ⟨fuel, hf⟩ := h0
  exact open_nums0 hf

end Go.Proofs.YtllhekkclhcdbaaDoor
