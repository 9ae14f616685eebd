/- The arguments of the laws, opened: a bitmap; an Ask. -/
import Derived.Test.YtmfpoabhmpljgaaK17
import Derived.ProofKit
import Derived.OpenShut
import Derived.ChangeOld
import Derived.Lib.SmallJoins
import Derived.Deep.Slices
import Derived.Deep.Strs
import Derived.Test.YtmfpoabhmpljgaaK25
namespace Go.Proofs.Ytmfpoabhmpljgaa
open Go.ChangeShapes Go.WideShapes Go.ChangeAt Go.RowKit

theorem Try.own : ownKnob Try.prog.godebug = none := by kernel_rfl
theorem Try.laidOut : laidOutB Try.prog = true := by kernel_rfl
theorem Try.cells26 : Try.prog.cellsOf 26 = 3 := by kernel_rfl
theorem Try.cells3 : Try.prog.cellsOf 3 = 1 := by kernel_rfl
theorem Try.cells24 : Try.prog.cellsOf 24 = 1 := by kernel_rfl
theorem Try.cells46 : Try.prog.cellsOf 46 = 1 := by kernel_rfl

theorem addr_add (b off j : Nat) : (⟨b, off, none⟩ : Addr).add j = ⟨b, off + j, none⟩ := by
  unfold Addr.add; split <;> simp_all

theorem open_ws {H : Type} {enc : TypeId × Value → H} {W : World} {fuel : Nat} {sp : Nat → Bool} {hd : Bool} {v : Value} {x : DataW H × List MemPlace} (h : DataW.trod enc Try.prog W 0 sp hd fuel 24 [v] = some x) :
    ∃ l : List Nat, Seen W v l ∧ CapOK v ∧ ∀ j : Nat, l[j]?.getD 0 < 18446744073709551616 := by
  rcases open_ints Try.underlying24 Try.underlying80 (by kernel_rfl) h with ⟨hcs, _⟩ | ⟨x, l, c, zs, hcs, _, hl, hm, hz, _, hcell, hwz⟩
  · simp at hcs
    subst hcs
    exact ⟨[], ⟨none, 0, rfl, by simp, fun hn => absurd rfl hn⟩, fun ao n c e => by cases e; exact ⟨by omega, by omega⟩, fun j => by simp⟩
  · simp at hcs
    subst hcs
    have hlz : l ≤ zs.length := by
      have := hz
      split at this <;> omega
    have hb : ∀ z ∈ zs, 0 ≤ z ∧ z ≤ 18446744073709551615 := fun z hmem => bounds_u64 (hwz _ hmem)
    have hlen : ((zs.take l).map Int.toNat).length = l := by simp; omega
    refine ⟨(zs.take l).map Int.toNat, ⟨some x, c, by rw [hlen], by rw [hlen]; unfold maxLen at hm; omega, fun hn => ?_⟩, fun ao n c' e => by cases e; exact ⟨hl, hm⟩, fun j => ?_⟩
    · have hl0 : 0 < l := by
        rcases Nat.eq_zero_or_pos l with h0 | h0
        · subst h0; simp at hn
        · exact h0
      obtain ⟨b, off, spot⟩ := x
      have hspot : spot = none := by
        have := World.cell?_spot (hcell 0 (by omega))
        simpa [Addr.add] using this
      subst hspot
      refine ⟨b, off, rfl, fun j hj => ?_⟩
      rw [hlen] at hj
      have h1 := hcell j (by omega)
      rw [addr_add] at h1
      rw [h1]
      have h2 : (zs.take l)[j]? = some (zs.getD j 0) := by
        rw [List.getElem?_take_of_lt hj, List.getD_eq_getElem?_getD, List.getElem?_eq_getElem (by omega)]; rfl
      have h3 : 0 ≤ zs.getD j 0 := by
        have hmem : zs.getD j 0 ∈ zs := by
          rw [List.getD_eq_getElem?_getD, List.getElem?_eq_getElem (by omega)]; exact List.getElem_mem _
        exact (hb _ hmem).1
      rw [List.getElem?_map, h2]
      simp only [Option.map_some, Option.getD_some, Int.toNat_of_nonneg h3]
    · rw [List.getElem?_map]
      by_cases hj : j < (zs.take l).length
      · rw [List.getElem?_eq_getElem hj]
        simp only [Option.map_some, Option.getD_some]
        have := hb _ (List.mem_of_mem_take (List.getElem_mem hj))
        omega
      · rw [List.getElem?_eq_none (by omega)]; simp

set_option maxRecDepth 100000 in
theorem bm_elem {H : Type} {enc : TypeId × Value → H} {W : World} {n : Nat} {sp : Nat → Bool} {hd : Bool} {cs : List Value} {x : DataW H × List MemPlace} (h : DataW.trod enc Try.prog W 0 sp hd n 26 cs = some x) :
    ∃ (a b : Int) (v : Value) (l : List Nat), cs = [.int .i64 a, .int .i64 b, v] ∧ (-9223372036854775808 ≤ a ∧ a ≤ 9223372036854775807) ∧ (-9223372036854775808 ≤ b ∧ b ≤ 9223372036854775807) ∧ Seen W v l ∧ CapOK v ∧ ∀ j : Nat, l[j]?.getD 0 < 18446744073709551616 := by
  obtain ⟨y0, y1, y2, m, _, hlen, t0, t1, t2⟩ := Deep.trod_struct3 Try.underlying26 h
  rw [Try.cells26] at hlen
  obtain ⟨a, b, c, rfl⟩ : ∃ a b c, cs = [a, b, c] := by
    match cs, hlen with
    | [a, b, c], _ => exact ⟨a, b, c, rfl⟩
  simp only [Try.cells3, Try.cells24] at t0 t1 t2
  obtain ⟨k0, e0, _, w0⟩ := DataW.trod_int Try.underlying3 t0
  obtain ⟨k1, e1, _, w1⟩ := DataW.trod_int Try.underlying3 t1
  simp at e0 e1
  subst e0; subst e1
  obtain ⟨l, hl1, hl0, hl2⟩ := open_ws t2
  have b0 := bounds_i64 w0
  have b1 := bounds_i64 w1
  exact ⟨k0, k1, c, l, rfl, by omega, by omega, hl1, hl0, hl2⟩


/-- Numbers that are handed in. -/
def IntsAt (w : World) (ao : Option Addr) (n : Nat) (X : Nat → Int) : Prop := n ≤ 9223372036854775807 ∧ (0 < n → ∃ b off, ao = some ⟨b, off, none⟩ ∧ ∀ j, j < n → w.cell? ⟨b, off + j, none⟩ = some (.int .i64 (X j))) ∧ ∀ j, j < n → -9223372036854775808 ≤ X j ∧ X j ≤ 9223372036854775807
theorem IntsAt.kept {w w' : World} {ao : Option Addr} {n : Nat} {X : Nat → Int} (h : IntsAt w ao n X) (f : Fr (fun _ => False) w w') : IntsAt w' ao n X := by
  refine ⟨h.1, fun hn => ?_, h.2.2⟩
  obtain ⟨b, off, rfl, hc⟩ := h.2.1 hn
  exact ⟨b, off, rfl, fun j hj => by rw [f.cellEq (seen_lt (hc j hj)) (fun hh => hh)]; exact hc j hj⟩

set_option maxRecDepth 100000 in
theorem open_is {H : Type} {enc : TypeId × Value → H} {W : World} {fuel : Nat} {sp : Nat → Bool} {hd : Bool} {v : Value} {x : DataW H × List MemPlace} (h : DataW.trod enc Try.prog W 0 sp hd fuel 46 [v] = some x) :
    ∃ ao n cap X, v = .slice ao n cap ∧ IntsAt W ao n X := by
  rcases open_ints Try.underlying46 Try.underlying3 (by kernel_rfl) h with ⟨hcs, _⟩ | ⟨x, l, c, zs, hcs, _, hl, hm, hz, _, hcell, hwz⟩
  · simp at hcs
    exact ⟨none, 0, 0, fun _ => 0, hcs, by omega, by omega, by omega⟩
  · simp at hcs
    have hlz : l ≤ zs.length := by
      have := hz
      split at this <;> omega
    have hb : ∀ j, j < l → -9223372036854775808 ≤ zs.getD j 0 ∧ zs.getD j 0 ≤ 9223372036854775807 := fun j hj => by
      have hmem : zs.getD j 0 ∈ zs := by
        rw [List.getD_eq_getElem?_getD, List.getElem?_eq_getElem (by omega)]; exact List.getElem_mem _
      exact bounds_i64 (hwz _ hmem)
    refine ⟨some x, l, c, fun j => zs.getD j 0, hcs, by unfold maxLen at hm; omega, fun hn => ?_, hb⟩
    obtain ⟨b, off, spot⟩ := x
    have hspot : spot = none := by
      have := World.cell?_spot (hcell 0 (by omega))
      simpa [Addr.add] using this
    subst hspot
    refine ⟨b, off, rfl, fun j hj => ?_⟩
    have h1 := hcell j (by omega)
    rw [addr_add] at h1
    exact h1


set_option maxRecDepth 100000 in
theorem open_bm {H : Type} {enc : TypeId × Value → H} {W : World} {base : Nat} {v0 : Value} {d0 : DataW H} {p0 : List MemPlace} (hv : Value.okWide Try.prog W .any base 26 v0) (h0 : DataW.Trod enc Try.prog W 0 (fun _ => true) true 26 v0 d0 p0) :
    ∃ (x y : Int) (v : Value) (l : List Nat), v0 = .agg #[.int .i64 x, .int .i64 y, v] ∧ (-9223372036854775808 ≤ x ∧ x ≤ 9223372036854775807) ∧ (-9223372036854775808 ≤ y ∧ y ≤ 9223372036854775807) ∧ Seen W v l ∧ CapOK v ∧ ∀ j : Nat, l[j]?.getD 0 < 18446744073709551616 := by
  obtain ⟨cs, rfl, hsz⟩ := okWide_struct Try.underlying26 hv
  obtain ⟨fuel, hf⟩ := h0
  obtain ⟨x, y, v, l, e0, b1, b2, b3, b4, b5⟩ := bm_elem hf
  obtain ⟨L⟩ := cs
  simp [Value.cells] at e0
  subst e0
  exact ⟨x, y, v, l, rfl, b1, b2, b3, b4, b5⟩

end Go.Proofs.Ytmfpoabhmpljgaa

/- The arguments of the laws, opened: an Ask, a slice of Asks, a Row. -/
namespace Go.Proofs.Ytmfpoabhmpljgaa
open Go.ChangeShapes Go.WideShapes Go.ChangeAt Go.RowKit

theorem Try.cells28 : Try.prog.cellsOf 28 = 8 := by kernel_rfl
theorem Try.cells22 : Try.prog.cellsOf 22 = 1 := by kernel_rfl

set_option maxRecDepth 100000 in
theorem ws_nil {H : Type} {enc : TypeId × Value → H} {W : World} {fuel : Nat} {sp : Nat → Bool} {hd : Bool} {v : Value} {x : DataW H × List MemPlace} (h : DataW.trod enc Try.prog W 0 sp hd fuel 24 [v] = some x) : NilOK v := by
  rcases open_ints Try.underlying24 Try.underlying80 (by kernel_rfl) h with ⟨hcs, _⟩ | ⟨x, l, c, zs, hcs, _⟩
  · simp at hcs
    subst hcs
    intro n c e
    cases e
    exact ⟨rfl, rfl⟩
  · simp at hcs
    subst hcs
    intro n c e
    cases e

set_option maxRecDepth 100000 in
theorem bm_nil {H : Type} {enc : TypeId × Value → H} {W : World} {n : Nat} {sp : Nat → Bool} {hd : Bool} {a b v : Value} {x : DataW H × List MemPlace} (h : DataW.trod enc Try.prog W 0 sp hd n 26 [a, b, v] = some x) : NilOK v := by
  obtain ⟨y0, y1, y2, m, _, hlen, t0, t1, t2⟩ := Deep.trod_struct3 Try.underlying26 h
  simp only [Try.cells3, Try.cells24] at t0 t1 t2
  exact ws_nil t2

set_option maxRecDepth 100000 in
theorem mp_elem {H : Type} {enc : TypeId × Value → H} {W : World} {n : Nat} {sp : Nat → Bool} {hd : Bool} {cs : List Value} {x : DataW H × List MemPlace} (h : DataW.trod enc Try.prog W 0 sp hd n 26 cs = some x) :
    ∃ (a b : Int) (v : Value) (l : List Nat), cs = [.int .i64 a, .int .i64 b, v] ∧ MpOK W a b v l := by
  obtain ⟨a, b, v, l, rfl, b1, b2, b3, b4, b5⟩ := bm_elem h
  exact ⟨a, b, v, l, rfl, b1, b2, b3, b4, bm_nil h, b5⟩

set_option maxRecDepth 100000 in
theorem ask_elem {H : Type} {enc : TypeId × Value → H} {W : World} {n : Nat} {sp : Nat → Bool} {hd : Bool} {cs : List Value} {x : DataW H × List MemPlace} (h : DataW.trod enc Try.prog W 0 sp hd n 28 cs = some x) :
    ∃ a : Ak, cs = a.cells ∧ AkOK W a := by
  obtain ⟨xs, m, _, rfl, hl, hlen, hf⟩ := DataW.trod_struct Try.underlying28 h
  rw [Try.cells28] at hl
  obtain ⟨a0, a1, a2, a3, a4, a5, a6, a7, rfl⟩ : ∃ a0 a1 a2 a3 a4 a5 a6 a7, cs = [a0, a1, a2, a3, a4, a5, a6, a7] := by
    match cs, hl with
    | [a0, a1, a2, a3, a4, a5, a6, a7], _ => exact ⟨a0, a1, a2, a3, a4, a5, a6, a7, rfl⟩
  have t0 := hf 0 _ rfl
  have t1 := hf 1 _ rfl
  have t2 := hf 2 _ rfl
  have t3 := hf 3 _ rfl
  simp at t0 t1 t2 t3
  rw [Try.cells26] at t0 t1
  rw [Try.cells3] at t2 t3
  simp only [List.take_succ_cons, List.take_zero] at t0 t1 t2 t3
  match xs, hlen with
  | [y0, y1, y2, y3], _ =>
    obtain ⟨x, y, v, l, e0, m0⟩ := mp_elem (x := y0) t0
    obtain ⟨rx, ry, rv, rl, e1, m1⟩ := mp_elem (x := y1) t1
    obtain ⟨k2, e2, _, w2⟩ := DataW.trod_int (x := y2) Try.underlying3 t2
    obtain ⟨k3, e3, _, w3⟩ := DataW.trod_int (x := y3) Try.underlying3 t3
    simp at e0 e1 e2 e3
    obtain ⟨rfl, rfl, rfl⟩ := e0
    obtain ⟨rfl, rfl, rfl⟩ := e1
    subst e2
    subst e3
    have b2 := bounds_i64 w2
    have b3 := bounds_i64 w3
    exact ⟨⟨x, y, a2, l, rx, ry, a5, rl, k2, k3⟩, rfl, m0, m1, by omega, by omega⟩

set_option maxRecDepth 100000 in
theorem open_ask {H : Type} {enc : TypeId × Value → H} {W : World} {base : Nat} {v0 : Value} {d0 : DataW H} {p0 : List MemPlace} (hv : Value.okWide Try.prog W .any base 28 v0) (h0 : DataW.Trod enc Try.prog W 0 (fun _ => true) true 28 v0 d0 p0) :
    ∃ a : Ak, v0 = .agg #[.int .i64 a.x, .int .i64 a.y, a.v, .int .i64 a.rx, .int .i64 a.ry, a.rv, .int .i64 a.dx, .int .i64 a.dy] ∧ AkOK W a := by
  obtain ⟨cs, rfl, hsz⟩ := okWide_struct Try.underlying28 hv
  obtain ⟨fuel, hf⟩ := h0
  obtain ⟨a, e0, b⟩ := ask_elem hf
  obtain ⟨L⟩ := cs
  simp [Value.cells, Ak.cells] at e0
  subst e0
  exact ⟨a, rfl, b⟩

set_option maxRecDepth 100000 in
theorem open_asks0 {H : Type} {enc : TypeId × Value → H} {W : World} {fuel : Nat} {sp : Nat → Bool} {hd : Bool} {v : Value} {x : DataW H × List MemPlace} (h : DataW.trod enc Try.prog W 0 sp hd fuel 22 [v] = some x) :
    ∃ ao n cap A, v = .slice ao n cap ∧ AsksAt W ao n A := by
  rcases Deep.open_slice Try.underlying22 h with ⟨hcs, _⟩ | ⟨a, len, cap, m, f, D, Pl, hcs, _, hlc, hmx, hm, _, hel⟩
  · simp at hcs
    exact ⟨none, 0, 0, fun _ => ⟨0, 0, .slice none 0 0, [], 0, 0, .slice none 0 0, [], 0, 0⟩, hcs, by omega, by omega, by omega⟩
  · simp at hcs
    have hlm : len ≤ m := by rw [hm]; split <;> omega
    have hex : ∀ i, i < len → ∃ y : Ak, (W.cell? ((a.add (i * 8)).add 0) = some (.int .i64 y.x) ∧ W.cell? ((a.add (i * 8)).add 1) = some (.int .i64 y.y) ∧ W.cell? ((a.add (i * 8)).add 2) = some y.v ∧ W.cell? ((a.add (i * 8)).add 3) = some (.int .i64 y.rx) ∧ W.cell? ((a.add (i * 8)).add 4) = some (.int .i64 y.ry) ∧ W.cell? ((a.add (i * 8)).add 5) = some y.rv ∧ W.cell? ((a.add (i * 8)).add 6) = some (.int .i64 y.dx) ∧ W.cell? ((a.add (i * 8)).add 7) = some (.int .i64 y.dy)) ∧ AkOK W y := by
      intro i hi
      obtain ⟨cs', hc, ht⟩ := hel i (by omega)
      obtain ⟨ak, rfl, b0⟩ := ask_elem ht
      rw [Try.cells28] at hc
      have hcc := (World.cells?_some hc).2.2
      exact ⟨ak, ⟨hcc 0 (by omega), hcc 1 (by omega), hcc 2 (by omega), hcc 3 (by omega), hcc 4 (by omega), hcc 5 (by omega), hcc 6 (by omega), hcc 7 (by omega)⟩, b0⟩
    have : Nonempty Ak := ⟨⟨0, 0, .slice none 0 0, [], 0, 0, .slice none 0 0, [], 0, 0⟩⟩
    have hinh : Inhabited Ak := ⟨⟨0, 0, .slice none 0 0, [], 0, 0, .slice none 0 0, [], 0, 0⟩⟩
    obtain ⟨f, hf⟩ := Deep.choose_lt hex
    refine ⟨some a, len, cap, f, hcs, by unfold maxLen at hmx; omega, fun hn => ?_, fun j hj => (hf j hj).2⟩
    obtain ⟨b, off, spot⟩ := a
    have hspot : spot = none := by
      have := World.cell?_spot (hf 0 hn).1.1
      simpa [Addr.add] using this
    subst hspot
    refine ⟨b, off, rfl, fun j hj => ?_⟩
    have := (hf j hj).1
    simp only [addr_add] at this
    exact this

set_option maxRecDepth 100000 in
theorem open_asks {H : Type} {enc : TypeId × Value → H} {W : World} {base : Nat} {v0 : Value} {d0 : DataW H} {p0 : List MemPlace} (hv : Value.okWide Try.prog W .any base 22 v0) (h0 : DataW.Trod enc Try.prog W 0 (fun _ => true) true 22 v0 d0 p0) :
    ∃ ao n cap A, v0 = .slice ao n cap ∧ AsksAt W ao n A := by
  obtain ⟨a0, len0, cap0, rfl⟩ := okWide_slice Try.underlying22 hv
  obtain ⟨fuel, hf⟩ := h0
  exact open_asks0 hf

end Go.Proofs.Ytmfpoabhmpljgaa
