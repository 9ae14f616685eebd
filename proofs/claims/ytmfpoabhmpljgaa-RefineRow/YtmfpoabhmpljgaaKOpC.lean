/- The arguments of the laws, opened: a Row. -/
import Derived.Test.YtmfpoabhmpljgaaK26
namespace Go.Proofs.Ytmfpoabhmpljgaa
open Go.ChangeShapes Go.WideShapes Go.ChangeAt Go.RowKit

theorem Try.cells52 : Try.prog.cellsOf 52 = 2 := by kernel_rfl

set_option maxRecDepth 100000 in
theorem open_row8 {H : Type} {enc : TypeId × Value → H} {W : World} {base : Nat} {v0 : Value} {d0 : DataW H} {p0 : List MemPlace} (hv : Value.okWide Try.prog W .any base 52 v0) (h0 : DataW.Trod enc Try.prog W 0 (fun _ => true) true 52 v0 d0 p0) :
    ∃ ao n cap A bi, v0 = .agg #[.slice ao n cap, .int .i64 bi] ∧ AsksAt W ao n A ∧ (-9223372036854775808 ≤ bi ∧ bi ≤ 9223372036854775807) := by
  obtain ⟨cs, rfl, hsz⟩ := okWide_struct Try.underlying52 hv
  obtain ⟨fuel, hf⟩ := h0
  obtain ⟨y0, y1, m, _, hlen, t0, t1⟩ := trod_struct2 Try.underlying52 hf
  obtain ⟨L⟩ := cs
  simp only [Value.cells] at hlen t0 t1
  rw [Try.cells52] at hlen
  simp only [Try.cells22, Try.cells3] at t0 t1
  obtain ⟨a0, a1, rfl⟩ : ∃ a0 a1, L = [a0, a1] := by
    match L, hlen with
    | [a0, a1], _ => exact ⟨a0, a1, rfl⟩
  simp at t0 t1
  obtain ⟨ao, n, cap, A, rfl, hA⟩ := open_asks0 t0
  obtain ⟨k, e, _, w0⟩ := DataW.trod_int Try.underlying3 t1
  simp at e
  subst e
  have := bounds_i64 w0
  exact ⟨ao, n, cap, A, k, rfl, hA, by omega⟩

end Go.Proofs.Ytmfpoabhmpljgaa
