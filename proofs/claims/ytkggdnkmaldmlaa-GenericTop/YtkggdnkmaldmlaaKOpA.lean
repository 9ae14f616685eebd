/- The arguments of the laws, opened: an Ask. -/
import Derived.Test.YtkggdnkmaldmlaaK29
namespace Go.Proofs.Ytkggdnkmaldmlaa
open Go.ChangeShapes Go.WideShapes Go.ChangeAt Go.RowKit

theorem Try.cells28 : Try.prog.cellsOf 28 = 5 := by kernel_rfl
theorem Try.cells4 : Try.prog.cellsOf 4 = 1 := by kernel_rfl

set_option maxRecDepth 100000 in
theorem ask_elem {H : Type} {enc : TypeId × Value → H} {W : World} {n : Nat} {sp : Nat → Bool} {hd : Bool} {cs : List Value} {x : DataW H × List MemPlace} (h : DataW.trod enc Try.prog W 0 sp hd n 28 cs = some x) :
    ∃ (a b : Int) (v : Value) (l : List Nat) (t : Int) (sk : Bool), cs = [.int .i64 a, .int .i64 b, v, .int .i64 t, .bool sk] ∧ (-9223372036854775808 ≤ a ∧ a ≤ 9223372036854775807) ∧ (-9223372036854775808 ≤ b ∧ b ≤ 9223372036854775807) ∧ Seen W v l ∧ CapOK v ∧ (∀ j : Nat, l[j]?.getD 0 < 18446744073709551616) ∧ (-9223372036854775808 ≤ t ∧ t ≤ 9223372036854775807) := by
  obtain ⟨y0, y1, y2, m, _, hlen, t0, t1, t2⟩ := Deep.trod_struct3 Try.underlying28 h
  rw [Try.cells28] at hlen
  simp only [Try.cells26, Try.cells3, Try.cells4] at t0 t1 t2
  obtain ⟨x, y, v, l, e0, b1, b2, b3, b4, b5⟩ := bm_elem t0
  obtain ⟨a0, a1, a2, a3, a4, rfl⟩ : ∃ a0 a1 a2 a3 a4, cs = [a0, a1, a2, a3, a4] := by
    match cs, hlen with
    | [a0, a1, a2, a3, a4], _ => exact ⟨a0, a1, a2, a3, a4, rfl⟩
  simp at e0 t1 t2
  obtain ⟨rfl, rfl, rfl⟩ := e0
  obtain ⟨k, e, _, w0⟩ := DataW.trod_int Try.underlying3 t1
  simp at e
  subst e
  obtain ⟨bb, e2, _⟩ := DataW.trod_bool Try.underlying4 t2
  simp at e2
  subst e2
  have := bounds_i64 w0
  exact ⟨x, y, a2, l, k, bb, rfl, b1, b2, b3, b4, b5, by omega⟩

set_option maxRecDepth 100000 in
theorem open_ask7 {H : Type} {enc : TypeId × Value → H} {W : World} {base : Nat} {v0 : Value} {d0 : DataW H} {p0 : List MemPlace} (hv : Value.okWide Try.prog W .any base 28 v0) (h0 : DataW.Trod enc Try.prog W 0 (fun _ => true) true 28 v0 d0 p0) :
    ∃ (x y : Int) (v : Value) (l : List Nat) (t : Int) (sk : Bool), v0 = .agg #[.int .i64 x, .int .i64 y, v, .int .i64 t, .bool sk] ∧ (-9223372036854775808 ≤ x ∧ x ≤ 9223372036854775807) ∧ (-9223372036854775808 ≤ y ∧ y ≤ 9223372036854775807) ∧ Seen W v l ∧ CapOK v ∧ (∀ j : Nat, l[j]?.getD 0 < 18446744073709551616) ∧ (-9223372036854775808 ≤ t ∧ t ≤ 9223372036854775807) := by
  obtain ⟨cs, rfl, hsz⟩ := okWide_struct Try.underlying28 hv
  obtain ⟨fuel, hf⟩ := h0
  obtain ⟨x, y, v, l, t, sk, e0, b1, b2, b3, b4, b5, b6⟩ := ask_elem hf
  obtain ⟨L⟩ := cs
  simp [Value.cells] at e0
  subst e0
  exact ⟨x, y, v, l, t, sk, rfl, b1, b2, b3, b4, b5, b6⟩

end Go.Proofs.Ytkggdnkmaldmlaa
