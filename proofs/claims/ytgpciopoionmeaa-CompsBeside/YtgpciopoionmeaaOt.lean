/- Two bitmaps, opened. -/
import Derived.Test.YtgpciopoionmeaaOp
namespace Go.Proofs.Ytgpciopoionmeaa
open Go.ChangeShapes Go.WideShapes Go.ChangeAt Go.RowKit

theorem Try.cells57 : Try.prog.cellsOf 57 = 6 := by kernel_rfl

set_option maxRecDepth 100000 in
theorem open_tw {H : Type} {enc : TypeId × Value → H} {W : World} {base : Nat} {v0 : Value} {d0 : DataW H} {p0 : List MemPlace} (hv : Value.okWide Try.prog W .any base 57 v0) (h0 : DataW.Trod enc Try.prog W 0 (fun _ => true) true 57 v0 d0 p0) :
    ∃ (x y : Int) (v : Value) (l : List Nat) (x' y' : Int) (v' : Value) (l' : List Nat), v0 = .agg #[.int .i64 x, .int .i64 y, v, .int .i64 x', .int .i64 y', v'] ∧ ((-9223372036854775808 ≤ x ∧ x ≤ 9223372036854775807) ∧ (-9223372036854775808 ≤ y ∧ y ≤ 9223372036854775807) ∧ Seen W v l ∧ CapOK v ∧ ∀ j : Nat, l[j]?.getD 0 < 18446744073709551616) ∧ ((-9223372036854775808 ≤ x' ∧ x' ≤ 9223372036854775807) ∧ (-9223372036854775808 ≤ y' ∧ y' ≤ 9223372036854775807) ∧ Seen W v' l' ∧ CapOK v' ∧ ∀ j : Nat, l'[j]?.getD 0 < 18446744073709551616) := by
  obtain ⟨cs, rfl, hsz⟩ := okWide_struct Try.underlying57 hv
  obtain ⟨fuel, hf⟩ := h0
  obtain ⟨y0, y1, m, _, hlen, t0, t1⟩ := trod_struct2 Try.underlying57 hf
  rw [Try.cells57] at hlen
  obtain ⟨L⟩ := cs
  simp only [Value.cells] at hlen t0 t1
  obtain ⟨a, b, c, d, e, f, rfl⟩ : ∃ a b c d e f, L = [a, b, c, d, e, f] := by
    match L, hlen with
    | [a, b, c, d, e, f], _ => exact ⟨a, b, c, d, e, f, rfl⟩
  simp only [Try.cells25] at t0 t1
  obtain ⟨x, y, v, l, e0, b1, b2, b3, b4, b5⟩ := bm_elem t0
  obtain ⟨x', y', v', l', e1, c1, c2, c3, c4, c5⟩ := bm_elem t1
  simp at e0 e1
  obtain ⟨rfl, rfl, rfl⟩ := e0
  obtain ⟨rfl, rfl, rfl⟩ := e1
  exact ⟨x, y, _, l, x', y', _, l', rfl, ⟨b1, b2, b3, b4, b5⟩, ⟨c1, c2, c3, c4, c5⟩⟩

end Go.Proofs.Ytgpciopoionmeaa
