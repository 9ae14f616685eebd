/- A bitmap and what stands between, opened. -/
import Derived.Test.YtpfajkkjnobdlaaDoorOq
namespace Go.Proofs.YtpfajkkjnobdlaaDoor
open Go.ChangeShapes Go.WideShapes Go.ChangeAt Go.RowKit
set_option maxRecDepth 100000
theorem Tryd.cells42 : Tryd.prog.cellsOf 42 = 1 := by kernel_rfl
theorem Tryd.cells44 : Tryd.prog.cellsOf 44 = 4 := by kernel_rfl

theorem open_ns {H : Type} {enc : TypeId × Value → H} {W : World} {fuel : Nat} {sp : Nat → Bool} {hd : Bool} {v : Value} {x : DataW H × List MemPlace} (h : DataW.trod enc Tryd.prog W 0 sp hd fuel 42 [v] = some x) :
    ∃ (bo : Option Addr) (nb cb : Nat) (Y : Nat → Int), v = .slice bo nb cb ∧ nb ≤ 9223372036854775807 ∧ (0 < nb → ∃ bb off, bo = some ⟨bb, off, none⟩ ∧ ∀ j, j < nb → W.cell? ⟨bb, off + j, none⟩ = some (.int .i64 (Y j)) ∧ -9223372036854775808 ≤ Y j ∧ Y j ≤ 9223372036854775807) := by
  rcases open_ints Tryd.underlying42 Tryd.underlying3 (by kernel_rfl) h with ⟨hcs, _⟩ | ⟨x, l, c, zs, hcs, _, hl, hm, hz, _, hcell, hwz⟩
  · simp at hcs
    subst hcs
    exact ⟨none, 0, 0, fun _ => 0, rfl, by omega, fun h => absurd h (by omega)⟩
  · simp at hcs
    subst hcs
    have hlz : l ≤ zs.length := by
      have := hz
      split at this <;> omega
    have hb : ∀ z ∈ zs, -9223372036854775808 ≤ z ∧ z ≤ 9223372036854775807 := fun z hmem => by have := bounds_i64 (hwz _ hmem); omega
    refine ⟨some x, l, c, fun j => zs.getD j 0, rfl, by unfold maxLen at hm; omega, fun hl0 => ?_⟩
    obtain ⟨b, off, spot⟩ := x
    have hspot : spot = none := by
      have := World.cell?_spot (hcell 0 (by omega))
      simpa [Addr.add] using this
    subst hspot
    refine ⟨b, off, rfl, fun j hj => ?_⟩
    have h1 := hcell j (by omega)
    rw [addr_add] at h1
    refine ⟨h1, hb _ ?_⟩
    show zs.getD j 0 ∈ zs
    rw [List.getD_eq_getElem?_getD, List.getElem?_eq_getElem (by omega)]
    exact List.getElem_mem _

theorem open_spread {H : Type} {enc : TypeId × Value → H} {W : World} {base : Nat} {v0 : Value} {d0 : DataW H} {p0 : List MemPlace} (hv : Value.okWide Tryd.prog W .any base 44 v0) (h0 : DataW.Trod enc Tryd.prog W 0 (fun _ => true) true 44 v0 d0 p0) :
    ∃ (a b : Int) (v : Value) (l : List Nat) (bo : Option Addr) (nb cb : Nat) (Y : Nat → Int), v0 = .agg #[.int .i64 a, .int .i64 b, v, .slice bo nb cb] ∧ (-9223372036854775808 ≤ a ∧ a ≤ 9223372036854775807) ∧ (-9223372036854775808 ≤ b ∧ b ≤ 9223372036854775807) ∧ Seen W v l ∧ (∀ j : Nat, l[j]?.getD 0 < 18446744073709551616) ∧ nb ≤ 9223372036854775807 ∧
      (0 < nb → ∃ bb off, bo = some ⟨bb, off, none⟩ ∧ ∀ j, j < nb → W.cell? ⟨bb, off + j, none⟩ = some (.int .i64 (Y j)) ∧ -9223372036854775808 ≤ Y j ∧ Y j ≤ 9223372036854775807) := by
  obtain ⟨cs, rfl, hsz⟩ := okWide_struct Tryd.underlying44 hv
  obtain ⟨fuel, hf⟩ := h0
  obtain ⟨y0, y1, m, _, hlen, t0, t1⟩ := trod_struct2 Tryd.underlying44 hf
  obtain ⟨L⟩ := cs
  simp only [Value.cells] at hlen t0 t1
  rw [Tryd.cells44] at hlen
  obtain ⟨a, b, c, d, rfl⟩ : ∃ a b c d, L = [a, b, c, d] := by
    match L, hlen with
    | [a, b, c, d], _ => exact ⟨a, b, c, d, rfl⟩
  simp only [Tryd.cells25, Tryd.cells42] at t0 t1
  obtain ⟨k0, k1, v, l, e0, b1, b2, b3, b4⟩ := bm_elem t0
  simp at e0
  obtain ⟨rfl, rfl, rfl⟩ := e0
  obtain ⟨bo, nb, cb, Y, e1, b5, b6⟩ := open_ns t1
  subst e1
  exact ⟨k0, k1, c, l, bo, nb, cb, Y, rfl, b1, b2, b3, b4, b5, b6⟩
end Go.Proofs.YtpfajkkjnobdlaaDoor
