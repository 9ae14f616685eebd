/- A blit's argument, opened: two bitmaps and eight numbers. -/
import Derived.Test.YtcopbjinnegfoabEq
import Derived.ProofKit
import Derived.OpenShut
import Derived.ChangeOld
import Derived.Lib.SmallJoins
import Derived.Deep.Slices
import Derived.Deep.Strs
namespace Go.Proofs.Ytcopbjinnegfoab
open Go.ChangeShapes Go.WideShapes Go.ChangeAt Go.RowKit

theorem Try.own : ownKnob Try.prog.godebug = none := by kernel_rfl
theorem Try.laidOut : laidOutB Try.prog = true := by kernel_rfl
theorem Try.cells37 : Try.prog.cellsOf 24 = 3 := by kernel_rfl
theorem Try.cells38 : Try.prog.cellsOf 25 = 8 := by kernel_rfl
theorem Try.cells40 : Try.prog.cellsOf 27 = 14 := by kernel_rfl
theorem Try.cells3 : Try.prog.cellsOf 3 = 1 := by kernel_rfl
theorem Try.cells35 : Try.prog.cellsOf 22 = 1 := by kernel_rfl

theorem addr_add (b off j : Nat) : (⟨b, off, none⟩ : Addr).add j = ⟨b, off + j, none⟩ := by
  unfold Addr.add; split <;> simp_all

theorem open_ws {H : Type} {enc : TypeId × Value → H} {W : World} {fuel : Nat} {sp : Nat → Bool} {hd : Bool} {v : Value} {x : DataW H × List MemPlace} (h : DataW.trod enc Try.prog W 0 sp hd fuel 22 [v] = some x) :
    ∃ l : List Nat, Seen W v l ∧ ∀ j : Nat, l[j]?.getD 0 < 18446744073709551616 := by
  rcases open_ints Try.underlying22 Try.underlying46 (by kernel_rfl) h with ⟨hcs, _⟩ | ⟨x, l, c, zs, hcs, _, hl, hm, hz, _, hcell, hwz⟩
  · simp at hcs
    subst hcs
    exact ⟨[], ⟨none, 0, rfl, by simp, fun hn => absurd rfl hn⟩, fun j => by simp⟩
  · simp at hcs
    subst hcs
    have hlz : l ≤ zs.length := by
      have := hz
      split at this <;> omega
    have hb : ∀ z ∈ zs, 0 ≤ z ∧ z ≤ 18446744073709551615 := fun z hmem => bounds_u64 (hwz _ hmem)
    have hlen : ((zs.take l).map Int.toNat).length = l := by simp; omega
    refine ⟨(zs.take l).map Int.toNat, ⟨some x, c, by rw [hlen], by rw [hlen]; unfold maxLen at hm; omega, fun hn => ?_⟩, fun j => ?_⟩
    · have hl0 : 0 < l := by
        rcases Nat.eq_zero_or_pos l with h0 | h0
        · subst h0; simp at hn
        · exact h0
      obtain ⟨b, off, spot⟩ := x
      have hspot : spot = none := by
        have := World.cell?_spot (hcell 0 (by omega))
        simpa [Addr.add] using this
      subst hspot
      refine ⟨b, off, rfl, fun j hj => ?_⟩
      rw [hlen] at hj
      have h1 := hcell j (by omega)
      rw [addr_add] at h1
      rw [h1]
      have h2 : (zs.take l)[j]? = some (zs.getD j 0) := by
        rw [List.getElem?_take_of_lt hj, List.getD_eq_getElem?_getD, List.getElem?_eq_getElem (by omega)]; rfl
      have h3 : 0 ≤ zs.getD j 0 := by
        have hmem : zs.getD j 0 ∈ zs := by
          rw [List.getD_eq_getElem?_getD, List.getElem?_eq_getElem (by omega)]; exact List.getElem_mem _
        exact (hb _ hmem).1
      rw [List.getElem?_map, h2]
      simp only [Option.map_some, Option.getD_some, Int.toNat_of_nonneg h3]
    · rw [List.getElem?_map]
      by_cases hj : j < (zs.take l).length
      · rw [List.getElem?_eq_getElem hj]
        simp only [Option.map_some, Option.getD_some]
        have := hb _ (List.mem_of_mem_take (List.getElem_mem hj))
        omega
      · rw [List.getElem?_eq_none (by omega)]; simp

theorem bm_elem {H : Type} {enc : TypeId × Value → H} {W : World} {n : Nat} {sp : Nat → Bool} {hd : Bool} {cs : List Value} {x : DataW H × List MemPlace} (h : DataW.trod enc Try.prog W 0 sp hd n 24 cs = some x) :
    ∃ (a b : Int) (v : Value) (l : List Nat), cs = [.int .i64 a, .int .i64 b, v] ∧ (-9223372036854775808 ≤ a ∧ a ≤ 9223372036854775807) ∧ (-9223372036854775808 ≤ b ∧ b ≤ 9223372036854775807) ∧ Seen W v l ∧ ∀ j : Nat, l[j]?.getD 0 < 18446744073709551616 := by
  obtain ⟨y0, y1, y2, m, _, hlen, t0, t1, t2⟩ := Deep.trod_struct3 Try.underlying24 h
  rw [Try.cells37] at hlen
  obtain ⟨a, b, c, rfl⟩ : ∃ a b c, cs = [a, b, c] := by
    match cs, hlen with
    | [a, b, c], _ => exact ⟨a, b, c, rfl⟩
  simp only [Try.cells3, Try.cells35] at t0 t1 t2
  obtain ⟨k0, e0, _, w0⟩ := DataW.trod_int Try.underlying3 t0
  obtain ⟨k1, e1, _, w1⟩ := DataW.trod_int Try.underlying3 t1
  simp at e0 e1
  subst e0; subst e1
  obtain ⟨l, hl1, hl2⟩ := open_ws t2
  have b0 := bounds_i64 w0
  have b1 := bounds_i64 w1
  exact ⟨k0, k1, c, l, rfl, by omega, by omega, hl1, hl2⟩


theorem int_of {H : Type} {enc : TypeId × Value → H} {W : World} {m : Nat} {sp : Nat → Bool} {hd : Bool} {a : Value} {o : Option (DataW H × List MemPlace)} (h : DataW.trod enc Try.prog W 0 sp hd m 3 [a] = o) (ho : o.isSome = true) : ∃ k : Int, a = .int .i64 k ∧ (-9223372036854775808 ≤ k ∧ k ≤ 9223372036854775807) := by
  obtain ⟨z, rfl⟩ := Option.isSome_iff_exists.1 ho
  obtain ⟨k, e, _, w0⟩ := DataW.trod_int Try.underlying3 h
  simp at e
  exact ⟨k, e, bounds_i64 w0⟩

theorem open_blit {H : Type} {enc : TypeId × Value → H} {W : World} {base : Nat} {v0 : Value} {d0 : DataW H} {p0 : List MemPlace} (hv : Value.okWide Try.prog W .any base 27 v0) (h0 : DataW.Trod enc Try.prog W 0 (fun _ => true) true 27 v0 d0 p0) :
    ∃ (x y : Int) (v : Value) (l : List Nat) (x2 y2 : Int) (v2 : Value) (l2 : List Nat) (n0 n1 n2 n3 n4 n5 n6 n7 : Int), v0 = .agg #[.int .i64 x, .int .i64 y, v, .int .i64 x2, .int .i64 y2, v2, .int .i64 n0, .int .i64 n1, .int .i64 n2, .int .i64 n3, .int .i64 n4, .int .i64 n5, .int .i64 n6, .int .i64 n7] ∧
      ((-9223372036854775808 ≤ x ∧ x ≤ 9223372036854775807) ∧ (-9223372036854775808 ≤ y ∧ y ≤ 9223372036854775807) ∧ Seen W v l ∧ ∀ j : Nat, l[j]?.getD 0 < 18446744073709551616) ∧
      ((-9223372036854775808 ≤ x2 ∧ x2 ≤ 9223372036854775807) ∧ (-9223372036854775808 ≤ y2 ∧ y2 ≤ 9223372036854775807) ∧ Seen W v2 l2 ∧ ∀ j : Nat, l2[j]?.getD 0 < 18446744073709551616) ∧
      ((-9223372036854775808 ≤ n0 ∧ n0 ≤ 9223372036854775807) ∧ (-9223372036854775808 ≤ n1 ∧ n1 ≤ 9223372036854775807) ∧ (-9223372036854775808 ≤ n2 ∧ n2 ≤ 9223372036854775807) ∧ (-9223372036854775808 ≤ n3 ∧ n3 ≤ 9223372036854775807) ∧ (-9223372036854775808 ≤ n4 ∧ n4 ≤ 9223372036854775807) ∧ (-9223372036854775808 ≤ n5 ∧ n5 ≤ 9223372036854775807) ∧ (-9223372036854775808 ≤ n6 ∧ n6 ≤ 9223372036854775807) ∧ (-9223372036854775808 ≤ n7 ∧ n7 ≤ 9223372036854775807)) := by
  obtain ⟨cs, rfl, hsz⟩ := okWide_struct Try.underlying27 hv
  obtain ⟨fuel, hf⟩ := h0
  obtain ⟨y0, y1, y2, m, _, hlen, t0, t1, t2⟩ := Deep.trod_struct3 Try.underlying27 hf
  simp only [Try.cells37, Try.cells38, Value.cells] at t0 t1 t2
  obtain ⟨x, y, v, l, e0, bx, b1, b2, b3⟩ := bm_elem t0
  obtain ⟨x2, y2', v2, l2, e1, bx2, c1, c2, c3⟩ := bm_elem t1
  obtain ⟨xs, k, _, _, hl8, hxs, hel⟩ := DataW.trod_array Try.underlying25 t2
  rw [Try.cells38] at hl8
  rw [Try.cells40] at hsz
  obtain ⟨L⟩ := cs
  simp at hsz e0 e1
  clear hl8 t2
  match L, hsz with
  | [a0, a1, a2, a3, a4, a5, a6, a7, a8, a9, a10, a11, a12, a13], _ =>
    simp at e0 e1
    obtain ⟨rfl, rfl, rfl⟩ := e0
    obtain ⟨rfl, rfl, rfl⟩ := e1
    obtain ⟨m0, rfl, g0⟩ := int_of (a := a6) (o := xs[0]?) (by simpa [Try.cells3] using hel 0 (by omega)) (by simp [hxs])
    obtain ⟨m1, rfl, g1⟩ := int_of (a := a7) (o := xs[1]?) (by simpa [Try.cells3] using hel 1 (by omega)) (by simp [hxs])
    obtain ⟨m2, rfl, g2⟩ := int_of (a := a8) (o := xs[2]?) (by simpa [Try.cells3] using hel 2 (by omega)) (by simp [hxs])
    obtain ⟨m3, rfl, g3⟩ := int_of (a := a9) (o := xs[3]?) (by simpa [Try.cells3] using hel 3 (by omega)) (by simp [hxs])
    obtain ⟨m4, rfl, g4⟩ := int_of (a := a10) (o := xs[4]?) (by simpa [Try.cells3] using hel 4 (by omega)) (by simp [hxs])
    obtain ⟨m5, rfl, g5⟩ := int_of (a := a11) (o := xs[5]?) (by simpa [Try.cells3] using hel 5 (by omega)) (by simp [hxs])
    obtain ⟨m6, rfl, g6⟩ := int_of (a := a12) (o := xs[6]?) (by simpa [Try.cells3] using hel 6 (by omega)) (by simp [hxs])
    obtain ⟨m7, rfl, g7⟩ := int_of (a := a13) (o := xs[7]?) (by simpa [Try.cells3] using hel 7 (by omega)) (by simp [hxs])
    exact ⟨x, y, a2, l, x2, y2', a5, l2, m0, m1, m2, m3, m4, m5, m6, m7, rfl, ⟨bx, b1, b2, b3⟩, ⟨bx2, c1, c2, c3⟩, g0, g1, g2, g3, g4, g5, g6, g7⟩

end Go.Proofs.Ytcopbjinnegfoab
