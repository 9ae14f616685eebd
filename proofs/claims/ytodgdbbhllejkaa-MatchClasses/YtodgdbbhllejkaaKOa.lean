/- The laws' arguments, opened: bitmaps and a tolerance's bits. -/
import Derived.Test.YtodgdbbhllejkaaK5
namespace Go.Proofs.Ytodgdbbhllejkaa
open Go.ChangeShapes Go.WideShapes Go.ChangeAt Go.RowKit

set_option maxRecDepth 100000 in
theorem bps_elem {H : Type} {enc : TypeId × Value → H} {W : World} {fuel : Nat} {v : Value} {x : DataW H × List MemPlace} (h : DataW.trod enc Try.prog W 0 (fun _ => true) true fuel 22 [v] = some x) :
    ∃ ao n cap A, v = .slice ao n cap ∧ BpsAt W ao n A ∧ n ≤ cap ∧ (ao = none → n = 0) := by
  rcases Deep.open_slice Try.underlying22 h with ⟨hcs, _⟩ | ⟨a, len0, cap0, m, f, D, Pl, hcs, _, hlc, hmx, hm, _, hel⟩
  · simp at hcs
    subst hcs
    exact ⟨none, 0, 0, fun _ => ⟨0, 0, .slice none 0 0, []⟩, rfl, ⟨by omega, by omega, by omega⟩, Nat.le_refl _, fun _ => rfl⟩
  · simp at hcs
    subst hcs
    have hlm : len0 ≤ m := by rw [hm]; split <;> omega
    have hex : ∀ i, i < len0 → ∃ y : Bp, (W.cell? ((a.add (i * 3)).add 0) = some (.int .i64 y.x) ∧ W.cell? ((a.add (i * 3)).add 1) = some (.int .i64 y.y) ∧ W.cell? ((a.add (i * 3)).add 2) = some y.v) ∧ BpOK W y := by
      intro i hi
      obtain ⟨cs', hc, ht⟩ := hel i (by omega)
      obtain ⟨x, y, v, l, rfl, b1, b2, b3, b4, b5⟩ := bm_elem ht
      rw [Try.cells48] at hc
      have hcc := (World.cells?_some hc).2.2
      exact ⟨⟨x, y, v, l⟩, ⟨hcc 0 (by omega), hcc 1 (by omega), hcc 2 (by omega)⟩, b1, b2, b3, b4, bm_nil ht, b5⟩
    have hinh : Inhabited Bp := ⟨⟨0, 0, .slice none 0 0, []⟩⟩
    obtain ⟨f, hf⟩ := Deep.choose_lt hex
    refine ⟨some a, len0, cap0, f, rfl, ⟨by unfold maxLen at hmx; omega, fun hn => ?_, fun i hi => (hf i hi).2⟩, hlc, fun e => by cases e⟩
    obtain ⟨b, off, spot⟩ := a
    have hspot : spot = none := by
      have := World.cell?_spot (hf 0 hn).1.1
      simpa [Addr.add] using this
    subst hspot
    refine ⟨b, off, rfl, fun j hj => ?_⟩
    have := (hf j hj).1
    simp only [addr_add] at this
    exact this
theorem Try.cells22 : Try.prog.cellsOf 22 = 1 := by kernel_rfl
theorem Try.cells23 : Try.prog.cellsOf 23 = 1 := by kernel_rfl
theorem Try.cells25 : Try.prog.cellsOf 25 = 2 := by kernel_rfl

set_option maxRecDepth 100000 in
theorem open_ask {H : Type} {enc : TypeId × Value → H} {W : World} {base : Nat} {v0 : Value} {d0 : DataW H} {p0 : List MemPlace} (hv : Value.okWide Try.prog W .any base 25 v0) (h0 : DataW.Trod enc Try.prog W 0 (fun _ => true) true 25 v0 d0 p0) :
    ∃ (ao : Option Addr) (n cap T : Nat) (A : Nat → Bp), v0 = .agg #[.slice ao n cap, .int .u64 (T : Int)] ∧ BpsAt W ao n A ∧ n ≤ cap ∧ (ao = none → n = 0) ∧ T < 18446744073709551616 := by
  obtain ⟨cs, rfl, hsz⟩ := okWide_struct Try.underlying25 hv
  obtain ⟨fuel, hf⟩ := h0
  obtain ⟨y0, y1, m, _, hlen, t0, t1⟩ := trod_struct2 Try.underlying25 hf
  rw [Try.cells25] at hlen
  obtain ⟨L⟩ := cs
  obtain ⟨a, b, rfl⟩ : ∃ a b, L = [a, b] := by
    match L, hlen with
    | [a, b], _ => exact ⟨a, b, rfl⟩
  simp [Value.cells, Try.cells22, Try.cells23] at t0 t1
  obtain ⟨k1, e1, _, w1⟩ := DataW.trod_int Try.underlying23 t1
  simp at e1
  subst e1
  obtain ⟨ao, n, cap, A, rfl, hB, hc, hnl⟩ := bps_elem t0
  have hb := bounds_u64 w1
  exact ⟨ao, n, cap, k1.toNat, A, by rw [Int.toNat_of_nonneg hb.1], hB, hc, hnl, by omega⟩

end Go.Proofs.Ytodgdbbhllejkaa
