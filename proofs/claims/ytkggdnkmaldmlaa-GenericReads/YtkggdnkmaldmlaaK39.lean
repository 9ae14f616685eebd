/- The arguments of the laws, opened: an Ask. -/
import Derived.Test.YtkggdnkmaldmlaaK29
import Derived.Test.YtkggdnkmaldmlaaK30
namespace Go.Proofs.Ytkggdnkmaldmlaa
open Go.ChangeShapes Go.WideShapes Go.ChangeAt Go.RowKit

theorem Try.cells28 : Try.prog.cellsOf 28 = 5 := by kernel_rfl
theorem Try.cells4 : Try.prog.cellsOf 4 = 1 := by kernel_rfl

set_option maxRecDepth 100000 in
theorem ask_elem {H : Type} {enc : TypeId × Value → H} {W : World} {n : Nat} {sp : Nat → Bool} {hd : Bool} {cs : List Value} {x : DataW H × List MemPlace} (h : DataW.trod enc Try.prog W 0 sp hd n 28 cs = some x) :
    ∃ (a b : Int) (v : Value) (l : List Nat) (t : Int) (sk : Bool), cs = [.int .i64 a, .int .i64 b, v, .int .i64 t, .bool sk] ∧ (-9223372036854775808 ≤ a ∧ a ≤ 9223372036854775807) ∧ (-9223372036854775808 ≤ b ∧ b ≤ 9223372036854775807) ∧ Seen W v l ∧ CapOK v ∧ (∀ j : Nat, l[j]?.getD 0 < 18446744073709551616) ∧ (-9223372036854775808 ≤ t ∧ t ≤ 9223372036854775807) := by
  obtain ⟨y0, y1, y2, m, _, hlen, t0, t1, t2⟩ := Deep.trod_struct3 Try.underlying28 h
  rw [Try.cells28] at hlen
  simp only [Try.cells26, Try.cells3, Try.cells4] at t0 t1 t2
  obtain ⟨x, y, v, l, e0, b1, b2, b3, b4, b5⟩ := bm_elem t0
  obtain ⟨a0, a1, a2, a3, a4, rfl⟩ : ∃ a0 a1 a2 a3 a4, cs = [a0, a1, a2, a3, a4] := by
    match cs, hlen with
    | [a0, a1, a2, a3, a4], _ => exact ⟨a0, a1, a2, a3, a4, rfl⟩
  simp at e0 t1 t2
  obtain ⟨rfl, rfl, rfl⟩ := e0
  obtain ⟨k, e, _, w0⟩ := DataW.trod_int Try.underlying3 t1
  simp at e
  subst e
  obtain ⟨bb, e2, _⟩ := DataW.trod_bool Try.underlying4 t2
  simp at e2
  subst e2
  have := bounds_i64 w0
  exact ⟨x, y, a2, l, k, bb, rfl, b1, b2, b3, b4, b5, by omega⟩

set_option maxRecDepth 100000 in
theorem open_ask7 {H : Type} {enc : TypeId × Value → H} {W : World} {base : Nat} {v0 : Value} {d0 : DataW H} {p0 : List MemPlace} (hv : Value.okWide Try.prog W .any base 28 v0) (h0 : DataW.Trod enc Try.prog W 0 (fun _ => true) true 28 v0 d0 p0) :
    ∃ (x y : Int) (v : Value) (l : List Nat) (t : Int) (sk : Bool), v0 = .agg #[.int .i64 x, .int .i64 y, v, .int .i64 t, .bool sk] ∧ (-9223372036854775808 ≤ x ∧ x ≤ 9223372036854775807) ∧ (-9223372036854775808 ≤ y ∧ y ≤ 9223372036854775807) ∧ Seen W v l ∧ CapOK v ∧ (∀ j : Nat, l[j]?.getD 0 < 18446744073709551616) ∧ (-9223372036854775808 ≤ t ∧ t ≤ 9223372036854775807) := by
  obtain ⟨cs, rfl, hsz⟩ := okWide_struct Try.underlying28 hv
  obtain ⟨fuel, hf⟩ := h0
  obtain ⟨x, y, v, l, t, sk, e0, b1, b2, b3, b4, b5, b6⟩ := ask_elem hf
  obtain ⟨L⟩ := cs
  simp [Value.cells] at e0
  subst e0
  exact ⟨x, y, v, l, t, sk, rfl, b1, b2, b3, b4, b5, b6⟩

end Go.Proofs.Ytkggdnkmaldmlaa

/- The arguments of the laws, opened: a slice of Asks. -/
namespace Go.Proofs.Ytkggdnkmaldmlaa
open Go.ChangeShapes Go.WideShapes Go.ChangeAt Go.RowKit

theorem Try.cells22 : Try.prog.cellsOf 22 = 1 := by kernel_rfl

set_option maxRecDepth 100000 in
theorem ws_nil {H : Type} {enc : TypeId × Value → H} {W : World} {fuel : Nat} {sp : Nat → Bool} {hd : Bool} {v : Value} {x : DataW H × List MemPlace} (h : DataW.trod enc Try.prog W 0 sp hd fuel 24 [v] = some x) : NilOK v := by
  rcases open_ints Try.underlying24 Try.underlying83 (by kernel_rfl) h with ⟨hcs, _⟩ | ⟨x, l, c, zs, hcs, _⟩
  · simp at hcs
    subst hcs
    intro n c e
    cases e
    exact ⟨rfl, rfl⟩
  · simp at hcs
    subst hcs
    intro n c e
    cases e

set_option maxRecDepth 100000 in
theorem bm_nil {H : Type} {enc : TypeId × Value → H} {W : World} {n : Nat} {sp : Nat → Bool} {hd : Bool} {a b v : Value} {x : DataW H × List MemPlace} (h : DataW.trod enc Try.prog W 0 sp hd n 26 [a, b, v] = some x) : NilOK v := by
  obtain ⟨y0, y1, y2, m, _, hlen, t0, t1, t2⟩ := Deep.trod_struct3 Try.underlying26 h
  simp only [Try.cells3, Try.cells24] at t0 t1 t2
  exact ws_nil t2

set_option maxRecDepth 100000 in
theorem ask_elem2 {H : Type} {enc : TypeId × Value → H} {W : World} {n : Nat} {sp : Nat → Bool} {hd : Bool} {cs : List Value} {x : DataW H × List MemPlace} (h : DataW.trod enc Try.prog W 0 sp hd n 28 cs = some x) :
    ∃ a : Ak, cs = [.int .i64 a.x, .int .i64 a.y, a.v, .int .i64 a.t, .bool a.sk] ∧ AkOK W a := by
  obtain ⟨x, y, v, l, t, sk, rfl, b1, b2, b3, b4, b5, b6⟩ := ask_elem h
  obtain ⟨y0, y1, y2, m, _, hlen, t0, t1, t2⟩ := Deep.trod_struct3 Try.underlying28 h
  simp only [Try.cells26, Try.cells3, Try.cells4] at t0 t1 t2
  exact ⟨⟨x, y, v, l, t, sk⟩, rfl, b1, b2, b3, b4, bm_nil t0, b5, b6⟩

set_option maxRecDepth 100000 in
theorem open_asks0 {H : Type} {enc : TypeId × Value → H} {W : World} {fuel : Nat} {sp : Nat → Bool} {hd : Bool} {v : Value} {x : DataW H × List MemPlace} (h : DataW.trod enc Try.prog W 0 sp hd fuel 22 [v] = some x) :
    ∃ ao n cap A, v = .slice ao n cap ∧ AsksAt W ao n A := by
  rcases Deep.open_slice Try.underlying22 h with ⟨hcs, _⟩ | ⟨a, len, cap, m, f, D, Pl, hcs, _, hlc, hmx, hm, _, hel⟩
  · simp at hcs
    exact ⟨none, 0, 0, fun _ => ⟨0, 0, .slice none 0 0, [], 0, false⟩, hcs, by omega, by omega, by omega⟩
  · simp at hcs
    have hlm : len ≤ m := by rw [hm]; split <;> omega
    have hex : ∀ i, i < len → ∃ y : Ak, (W.cell? ((a.add (i * 5)).add 0) = some (.int .i64 y.x) ∧ W.cell? ((a.add (i * 5)).add 1) = some (.int .i64 y.y) ∧ W.cell? ((a.add (i * 5)).add 2) = some y.v ∧ W.cell? ((a.add (i * 5)).add 3) = some (.int .i64 y.t) ∧ W.cell? ((a.add (i * 5)).add 4) = some (.bool y.sk)) ∧ AkOK W y := by
      intro i hi
      obtain ⟨cs', hc, ht⟩ := hel i (by omega)
      obtain ⟨ak, rfl, b0⟩ := ask_elem2 ht
      rw [Try.cells28] at hc
      have hcc := (World.cells?_some hc).2.2
      exact ⟨ak, ⟨hcc 0 (by omega), hcc 1 (by omega), hcc 2 (by omega), hcc 3 (by omega), hcc 4 (by omega)⟩, b0⟩
    have : Nonempty Ak := ⟨⟨0, 0, .slice none 0 0, [], 0, false⟩⟩
    have hinh : Inhabited Ak := ⟨⟨0, 0, .slice none 0 0, [], 0, false⟩⟩
    obtain ⟨f, hf⟩ := Deep.choose_lt hex
    refine ⟨some a, len, cap, f, hcs, by unfold maxLen at hmx; omega, fun hn => ?_, fun j hj => (hf j hj).2⟩
    obtain ⟨b, off, spot⟩ := a
    have hspot : spot = none := by
      have := World.cell?_spot (hf 0 hn).1.1
      simpa [Addr.add] using this
    subst hspot
    refine ⟨b, off, rfl, fun j hj => ?_⟩
    have := (hf j hj).1
    simp only [addr_add] at this
    exact this

set_option maxRecDepth 100000 in
theorem open_asks {H : Type} {enc : TypeId × Value → H} {W : World} {base : Nat} {v0 : Value} {d0 : DataW H} {p0 : List MemPlace} (hv : Value.okWide Try.prog W .any base 22 v0) (h0 : DataW.Trod enc Try.prog W 0 (fun _ => true) true 22 v0 d0 p0) :
    ∃ ao n cap A, v0 = .slice ao n cap ∧ AsksAt W ao n A := by
  obtain ⟨a0, len0, cap0, rfl⟩ := okWide_slice Try.underlying22 hv
  obtain ⟨fuel, hf⟩ := h0
  exact open_asks0 hf

end Go.Proofs.Ytkggdnkmaldmlaa
