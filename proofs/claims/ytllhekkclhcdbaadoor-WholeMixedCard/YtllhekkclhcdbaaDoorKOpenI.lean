/- Items opened. -/
import Derived.Test.YtllhekkclhcdbaaDoorKOpen
import Derived.Test.YtllhekkclhcdbaaDoorKIt
namespace Go.Proofs.YtllhekkclhcdbaaDoor
open Go.ChangeShapes Go.WideShapes Go.ChangeAt Go.RowKit

theorem Tryd.cells48 : Tryd.prog.cellsOf 48 = 5 := by kernel_rfl
theorem Tryd.cells37 : Tryd.prog.cellsOf 37 = 1 := by kernel_rfl
theorem Tryd.cells39 : Tryd.prog.cellsOf 39 = 1 := by kernel_rfl
theorem list5 {α : Type} : ∀ {l : List α}, l.length = 5 → ∃ a b c d e, l = [a, b, c, d, e]
  | [a, b, c, d, e], _ => ⟨a, b, c, d, e, rfl⟩
theorem list1 {α : Type} : ∀ {l : List α}, l.length = 1 → ∃ a, l = [a]
  | [a], _ => ⟨a, rfl⟩

theorem it_elem {H : Type} {enc : TypeId × Value → H} {W : World} {base n : Nat} {sp : Nat → Bool} {hd : Bool} {cs : List Value} {x : DataW H × List MemPlace} (h : DataW.trod enc Tryd.prog W base sp hd n 48 cs = some x) :
    ∃ it : It, cs = it.cells ∧ (-9223372036854775808 ≤ it.b ∧ it.b ≤ 9223372036854775807) := by
  obtain ⟨y0, y1, y2, y3, m, _, hlen, t0, t1, t2, t3⟩ := Joins.trod_struct4 Tryd.underlying48 h
  rw [Tryd.cells48] at hlen
  obtain ⟨a, b, c, d, e, rfl⟩ := list5 hlen
  simp only [Tryd.cells3, Tryd.cells4, Tryd.cells46] at t0 t1 t2 t3
  obtain ⟨k0, e0, _⟩ := DataW.trod_bool Tryd.underlying4 t0
  obtain ⟨k1, e1, _, w1⟩ := DataW.trod_int Tryd.underlying3 t1
  obtain ⟨k2, e2, _, w2⟩ := DataW.trod_int Tryd.underlying3 t2
  obtain ⟨v, nn, e3, _⟩ := num_elem t3
  simp at e0 e1 e2 e3
  obtain ⟨e3, e4⟩ := e3
  subst e0; subst e1; subst e2; subst e3; subst e4
  have b1 := bounds_i64 w1
  exact ⟨⟨k0, k1, k2, v, nn⟩, rfl, by omega⟩

theorem open_items0 {H : Type} {enc : TypeId × Value → H} {W : World} {fuel : Nat} {sp : Nat → Bool} {hd : Bool} {v : Value} {x : DataW H × List MemPlace} (h : DataW.trod enc Tryd.prog W 0 sp hd fuel 37 [v] = some x) :
    ∃ ao n cap I, v = .slice ao n cap ∧ ItemsAt W ao n I ∧ ∀ j, j < n → -9223372036854775808 ≤ (I j).b ∧ (I j).b ≤ 9223372036854775807 := by
  rcases Deep.open_slice Tryd.underlying37 h with ⟨hcs, _⟩ | ⟨a, len, cap, m, f, D, Pl, hcs, _, hlc, hmx, hm, _, hel⟩
  · simp at hcs
    exact ⟨none, 0, 0, fun _ => default, hcs, ⟨by omega, by omega⟩, by omega⟩
  · simp at hcs
    have hlm : len ≤ m := by rw [hm]; split <;> omega
    have hex : ∀ i, i < len → ∃ y : It, (W.cell? ((a.add (i * 5)).add 0) = some (.bool y.idb) ∧ W.cell? ((a.add (i * 5)).add 1) = some (.int .i64 y.b) ∧ W.cell? ((a.add (i * 5)).add 2) = some (.int .i64 y.w) ∧ W.cell? ((a.add (i * 5)).add 3) = some (.int .i64 y.v) ∧ W.cell? ((a.add (i * 5)).add 4) = some (.bool y.nn)) ∧ (-9223372036854775808 ≤ y.b ∧ y.b ≤ 9223372036854775807) := by
      intro i hi
      obtain ⟨cs', hc, ht⟩ := hel i (by omega)
      obtain ⟨it, rfl, b0⟩ := it_elem ht
      rw [Tryd.cells48] at hc
      have hcc := (World.cells?_some hc).2.2
      exact ⟨it, ⟨hcc 0 (by omega), hcc 1 (by omega), hcc 2 (by omega), hcc 3 (by omega), hcc 4 (by omega)⟩, b0⟩
    obtain ⟨f, hf⟩ := Deep.choose_lt hex
    refine ⟨some a, len, cap, f, hcs, ⟨by unfold maxLen at hmx; omega, fun hn => ?_⟩, fun j hj => (hf j hj).2⟩
    obtain ⟨b, off, spot⟩ := a
    have hspot : spot = none := by
      have := World.cell?_spot (hf 0 hn).1.1
      simpa [Addr.add] using this
    subst hspot
    refine ⟨b, off, rfl, fun j hj => ?_⟩
    have := (hf j hj).1
    simp only [addr_add] at this
    exact this

set_option maxRecDepth 100000 in
theorem open_mixed {H : Type} {enc : TypeId × Value → H} {W : World} {base : Nat} {v0 : Value} {d0 : DataW H} {p0 : List MemPlace} (hv : Value.okWide Tryd.prog W .any base 39 v0) (h0 : DataW.Trod enc Tryd.prog W 0 (fun _ => true) true 39 v0 d0 p0) :
    ∃ ao n cap I, v0 = .agg #[.slice ao n cap] ∧ ItemsAt W ao n I ∧ ∀ j, j < n → -9223372036854775808 ≤ (I j).b ∧ (I j).b ≤ 9223372036854775807 := by
  obtain ⟨cs, rfl, hsz⟩ := okWide_struct Tryd.underlying39 hv
  obtain ⟨fuel, hf⟩ := h0
  obtain ⟨xs, n, _, _, hl, hlen, hff⟩ := DataW.trod_struct Tryd.underlying39 hf
  obtain ⟨L⟩ := cs
  simp only [Value.cells] at hl hff
  rw [Tryd.cells39] at hl
  obtain ⟨a, rfl⟩ := list1 hl
  have h1 := hff 0 { name := "L", type := 37, offset := 0, embedded := false, tag := "", pkgPath := "", byteOffset := 0 } rfl
  simp only [Tryd.cells37] at h1
  obtain ⟨y, hy⟩ : ∃ y, xs[0]? = some y := ⟨xs[0]'(by rw [hlen]; decide), List.getElem?_eq_getElem _⟩
  rw [hy] at h1
  obtain ⟨ao, m, cap, I, e, h2, h3⟩ := open_items0 h1
  subst e
  exact ⟨ao, m, cap, I, rfl, h2, h3⟩

end Go.Proofs.YtllhekkclhcdbaaDoor
