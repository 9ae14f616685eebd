/- The argument of the laws, opened: a Script. -/
import Derived.Test.YtejempbgpkeheaaSc
import Derived.ProofKit
import Derived.OpenShut
import Derived.ChangeOld
import Derived.Lib.SmallJoins
import Derived.Deep.Slices
import Derived.Deep.Strs
namespace Go.Proofs.Ytejempbgpkeheaa
open Go.ChangeShapes Go.WideShapes Go.ChangeAt Go.RowKit

theorem Try.own : ownKnob Try.prog.godebug = none := by kernel_rfl
theorem Try.laidOut : laidOutB Try.prog = true := by kernel_rfl
theorem Try.cells38 : Try.prog.cellsOf 38 = 3 := by kernel_rfl
theorem Try.cells3 : Try.prog.cellsOf 3 = 1 := by kernel_rfl
theorem Try.cells4 : Try.prog.cellsOf 4 = 1 := by kernel_rfl
theorem Try.cells36 : Try.prog.cellsOf 36 = 1 := by kernel_rfl
theorem Try.cells40 : Try.prog.cellsOf 40 = 7 := by kernel_rfl
theorem Try.cells24 : Try.prog.cellsOf 24 = 1 := by kernel_rfl
theorem Try.cells25 : Try.prog.cellsOf 25 = 1 := by kernel_rfl
theorem Try.cells23 : Try.prog.cellsOf 23 = 4 := by kernel_rfl
theorem Try.cells27 : Try.prog.cellsOf 27 = 6 := by kernel_rfl

theorem addr_add (b off j : Nat) : (⟨b, off, none⟩ : Addr).add j = ⟨b, off + j, none⟩ := by
  unfold Addr.add; split <;> simp_all

theorem open_ws {H : Type} {enc : TypeId × Value → H} {W : World} {fuel : Nat} {sp : Nat → Bool} {hd : Bool} {v : Value} {x : DataW H × List MemPlace} (h : DataW.trod enc Try.prog W 0 sp hd fuel 36 [v] = some x) :
    ∃ l : List Nat, Seen W v l ∧ CapOK v ∧ ∀ j : Nat, l[j]?.getD 0 < 18446744073709551616 := by
  rcases open_ints Try.underlying36 Try.underlying65 (by kernel_rfl) h with ⟨hcs, _⟩ | ⟨x, l, c, zs, hcs, _, hl, hm, hz, _, hcell, hwz⟩
  · simp at hcs
    subst hcs
    exact ⟨[], ⟨none, 0, rfl, by simp, fun hn => absurd rfl hn⟩, fun ao n c e => by cases e; exact ⟨by omega, by omega⟩, fun j => by simp⟩
  · simp at hcs
    subst hcs
    have hlz : l ≤ zs.length := by
      have := hz
      split at this <;> omega
    have hb : ∀ z ∈ zs, 0 ≤ z ∧ z ≤ 18446744073709551615 := fun z hmem => bounds_u64 (hwz _ hmem)
    have hlen : ((zs.take l).map Int.toNat).length = l := by simp; omega
    refine ⟨(zs.take l).map Int.toNat, ⟨some x, c, by rw [hlen], by rw [hlen]; unfold maxLen at hm; omega, fun hn => ?_⟩, fun ao n c' e => by cases e; exact ⟨hl, hm⟩, fun j => ?_⟩
    · have hl0 : 0 < l := by
        rcases Nat.eq_zero_or_pos l with h0 | h0
        · subst h0; simp at hn
        · exact h0
      obtain ⟨b, off, spot⟩ := x
      have hspot : spot = none := by
        have := World.cell?_spot (hcell 0 (by omega))
        simpa [Addr.add] using this
      subst hspot
      refine ⟨b, off, rfl, fun j hj => ?_⟩
      rw [hlen] at hj
      have h1 := hcell j (by omega)
      rw [addr_add] at h1
      rw [h1]
      have h2 : (zs.take l)[j]? = some (zs.getD j 0) := by
        rw [List.getElem?_take_of_lt hj, List.getD_eq_getElem?_getD, List.getElem?_eq_getElem (by omega)]; rfl
      have h3 : 0 ≤ zs.getD j 0 := by
        have hmem : zs.getD j 0 ∈ zs := by
          rw [List.getD_eq_getElem?_getD, List.getElem?_eq_getElem (by omega)]; exact List.getElem_mem _
        exact (hb _ hmem).1
      rw [List.getElem?_map, h2]
      simp only [Option.map_some, Option.getD_some, Int.toNat_of_nonneg h3]
    · rw [List.getElem?_map]
      by_cases hj : j < (zs.take l).length
      · rw [List.getElem?_eq_getElem hj]
        simp only [Option.map_some, Option.getD_some]
        have := hb _ (List.mem_of_mem_take (List.getElem_mem hj))
        omega
      · rw [List.getElem?_eq_none (by omega)]; simp

set_option maxRecDepth 100000 in
theorem bm_elem {H : Type} {enc : TypeId × Value → H} {W : World} {n : Nat} {sp : Nat → Bool} {hd : Bool} {cs : List Value} {x : DataW H × List MemPlace} (h : DataW.trod enc Try.prog W 0 sp hd n 38 cs = some x) :
    ∃ (a b : Int) (v : Value) (l : List Nat), cs = [.int .i64 a, .int .i64 b, v] ∧ (-9223372036854775808 ≤ a ∧ a ≤ 9223372036854775807) ∧ (-9223372036854775808 ≤ b ∧ b ≤ 9223372036854775807) ∧ Seen W v l ∧ CapOK v ∧ ∀ j : Nat, l[j]?.getD 0 < 18446744073709551616 := by
  obtain ⟨y0, y1, y2, m, _, hlen, t0, t1, t2⟩ := Deep.trod_struct3 Try.underlying38 h
  rw [Try.cells38] at hlen
  obtain ⟨a, b, c, rfl⟩ : ∃ a b c, cs = [a, b, c] := by
    match cs, hlen with
    | [a, b, c], _ => exact ⟨a, b, c, rfl⟩
  simp only [Try.cells3, Try.cells36] at t0 t1 t2
  obtain ⟨k0, e0, _, w0⟩ := DataW.trod_int Try.underlying3 t0
  obtain ⟨k1, e1, _, w1⟩ := DataW.trod_int Try.underlying3 t1
  simp at e0 e1
  subst e0; subst e1
  obtain ⟨l, hl1, hl0, hl2⟩ := open_ws t2
  have b0 := bounds_i64 w0
  have b1 := bounds_i64 w1
  exact ⟨k0, k1, c, l, rfl, by omega, by omega, hl1, hl0, hl2⟩


set_option maxRecDepth 100000 in
theorem ws_nil {H : Type} {enc : TypeId × Value → H} {W : World} {fuel : Nat} {sp : Nat → Bool} {hd : Bool} {v : Value} {x : DataW H × List MemPlace} (h : DataW.trod enc Try.prog W 0 sp hd fuel 36 [v] = some x) : NilOK v := by
  rcases open_ints Try.underlying36 Try.underlying65 (by kernel_rfl) h with ⟨hcs, _⟩ | ⟨x, l, c, zs, hcs, _⟩
  · simp at hcs
    subst hcs
    intro n c e
    cases e
    exact ⟨rfl, rfl⟩
  · simp at hcs
    subst hcs
    intro n c e
    cases e

set_option maxRecDepth 100000 in
theorem bm_nil {H : Type} {enc : TypeId × Value → H} {W : World} {n : Nat} {sp : Nat → Bool} {hd : Bool} {a b v : Value} {x : DataW H × List MemPlace} (h : DataW.trod enc Try.prog W 0 sp hd n 38 [a, b, v] = some x) : NilOK v := by
  obtain ⟨y0, y1, y2, m, _, hlen, t0, t1, t2⟩ := Deep.trod_struct3 Try.underlying38 h
  simp only [Try.cells3, Try.cells36] at t0 t1 t2
  exact ws_nil t2


set_option maxRecDepth 100000 in
theorem th_elem {H : Type} {enc : TypeId × Value → H} {W : World} {n : Nat} {sp : Nat → Bool} {hd : Bool} {cs : List Value} {x : DataW H × List MemPlace} (h : DataW.trod enc Try.prog W 0 sp hd n 40 cs = some x) :
    ∃ t : Th, cs = t.cells ∧ ThOK W t := by
  obtain ⟨xs, m, _, rfl, hl, hlen, hf⟩ := DataW.trod_struct Try.underlying40 h
  rw [Try.cells40] at hl
  obtain ⟨a0, a1, a2, a3, a4, a5, a6, rfl⟩ : ∃ a0 a1 a2 a3 a4 a5 a6, cs = [a0, a1, a2, a3, a4, a5, a6] := by
    match cs, hl with
    | [a0, a1, a2, a3, a4, a5, a6], _ => exact ⟨a0, a1, a2, a3, a4, a5, a6, rfl⟩
  have t0 := hf 0 _ rfl
  have t1 := hf 1 _ rfl
  have t2 := hf 2 _ rfl
  have t3 := hf 3 _ rfl
  have t4 := hf 4 _ rfl
  simp at t0 t1 t2 t3 t4
  rw [Try.cells3] at t0 t1 t2 t3
  rw [Try.cells38] at t4
  simp only [List.take_succ_cons, List.take_zero] at t0 t1 t2 t3 t4
  match xs, hlen with
  | [y0, y1, y2, y3, y4], _ =>
    obtain ⟨k0, e0, _, w0⟩ := DataW.trod_int (x := y0) Try.underlying3 t0
    obtain ⟨k1, e1, _, w1⟩ := DataW.trod_int (x := y1) Try.underlying3 t1
    obtain ⟨k2, e2, _, w2⟩ := DataW.trod_int (x := y2) Try.underlying3 t2
    obtain ⟨k3, e3, _, w3⟩ := DataW.trod_int (x := y3) Try.underlying3 t3
    obtain ⟨a, b, v, l, e4, b1, b2, b3, b4, b5⟩ := bm_elem (x := y4) t4
    simp at e0 e1 e2 e3 e4
    subst e0
    subst e1
    subst e2
    subst e3
    obtain ⟨rfl, rfl, rfl⟩ := e4
    have hn := bm_nil (x := y4) t4
    have q0 : I64 k0 := by have := bounds_i64 w0; exact ⟨by omega, by omega⟩
    have q1 : I64 k1 := by have := bounds_i64 w1; exact ⟨by omega, by omega⟩
    have q2 : I64 k2 := by have := bounds_i64 w2; exact ⟨by omega, by omega⟩
    have q3 : I64 k3 := by have := bounds_i64 w3; exact ⟨by omega, by omega⟩
    exact ⟨⟨k0, k1, k2, k3, a, b, a6, l⟩, rfl, q0, q1, q2, q3, b1, b2, b3, b4, hn, b5⟩

set_option maxRecDepth 100000 in
theorem open_ths0 {H : Type} {enc : TypeId × Value → H} {W : World} {fuel : Nat} {sp : Nat → Bool} {hd : Bool} {v : Value} {x : DataW H × List MemPlace} (h : DataW.trod enc Try.prog W 0 sp hd fuel 24 [v] = some x) :
    ∃ ao n cap A, v = .slice ao n cap ∧ ThsAt W ao n A := by
  rcases Deep.open_slice Try.underlying24 h with ⟨hcs, _⟩ | ⟨a, len, cap, m, f, D, Pl, hcs, _, hlc, hmx, hm, _, hel⟩
  · simp at hcs
    exact ⟨none, 0, 0, fun _ => ⟨0, 0, 0, 0, 0, 0, .slice none 0 0, []⟩, hcs, by omega, by omega, by omega⟩
  · simp at hcs
    have hlm : len ≤ m := by rw [hm]; split <;> omega
    have hex : ∀ i, i < len → ∃ y : Th, (W.cell? ((a.add (i * 7)).add 0) = some (.int .i64 y.k) ∧ W.cell? ((a.add (i * 7)).add 1) = some (.int .i64 y.x) ∧ W.cell? ((a.add (i * 7)).add 2) = some (.int .i64 y.y) ∧ W.cell? ((a.add (i * 7)).add 3) = some (.int .i64 y.op) ∧ W.cell? ((a.add (i * 7)).add 4) = some (.int .i64 y.a) ∧ W.cell? ((a.add (i * 7)).add 5) = some (.int .i64 y.b) ∧ W.cell? ((a.add (i * 7)).add 6) = some y.v) ∧ ThOK W y := by
      intro i hi
      obtain ⟨cs', hc, ht⟩ := hel i (by omega)
      obtain ⟨ak, rfl, b0⟩ := th_elem ht
      rw [Try.cells40] at hc
      have hcc := (World.cells?_some hc).2.2
      exact ⟨ak, ⟨hcc 0 (by omega), hcc 1 (by omega), hcc 2 (by omega), hcc 3 (by omega), hcc 4 (by omega), hcc 5 (by omega), hcc 6 (by omega)⟩, b0⟩
    have : Nonempty Th := ⟨⟨0, 0, 0, 0, 0, 0, .slice none 0 0, []⟩⟩
    have hinh : Inhabited Th := ⟨⟨0, 0, 0, 0, 0, 0, .slice none 0 0, []⟩⟩
    obtain ⟨f, hf⟩ := Deep.choose_lt hex
    refine ⟨some a, len, cap, f, hcs, by unfold maxLen at hmx; omega, fun hn => ?_, fun j hj => (hf j hj).2⟩
    obtain ⟨b, off, spot⟩ := a
    have hspot : spot = none := by
      have := World.cell?_spot (hf 0 hn).1.1
      simpa [Addr.add] using this
    subst hspot
    refine ⟨b, off, rfl, fun j hj => ?_⟩
    have := (hf j hj).1
    simp only [addr_add] at this
    exact this

/-- Bools that are handed in. -/
def DueAt (w : World) (ao : Option Addr) (n : Nat) (D : Nat → Bool) : Prop := n ≤ 9223372036854775807 ∧ (0 < n → ∃ b off, ao = some ⟨b, off, none⟩ ∧ ∀ j, j < n → w.cell? ⟨b, off + j, none⟩ = some (.bool (D j)))
theorem DueAt.kept {w w' : World} {ao : Option Addr} {n : Nat} {D : Nat → Bool} (h : DueAt w ao n D) (f : Fr (fun _ => False) w w') : DueAt w' ao n D := by
  refine ⟨h.1, fun hn => ?_⟩
  obtain ⟨b, off, rfl, hc⟩ := h.2 hn
  exact ⟨b, off, rfl, fun j hj => by rw [f.cellEq (seen_lt (hc j hj)) (fun hh => hh)]; exact hc j hj⟩

set_option maxRecDepth 100000 in
theorem open_due0 {H : Type} {enc : TypeId × Value → H} {W : World} {fuel : Nat} {sp : Nat → Bool} {hd : Bool} {v : Value} {x : DataW H × List MemPlace} (h : DataW.trod enc Try.prog W 0 sp hd fuel 25 [v] = some x) :
    ∃ ao n cap D, v = .slice ao n cap ∧ DueAt W ao n D := by
  rcases Deep.open_slice1 Try.underlying25 Try.cells4 h with ⟨hcs, _⟩ | ⟨a, len, cap, m, f, V, D, Pl, hcs, _, hlc, hmx, hm, _, hel⟩
  · simp at hcs
    exact ⟨none, 0, 0, fun _ => false, hcs, by omega, by omega⟩
  · simp at hcs
    have hlm : len ≤ m := by rw [hm]; split <;> omega
    have hex : ∀ i, i < len → ∃ y : Bool, W.cell? (a.add i) = some (.bool y) := by
      intro i hi
      obtain ⟨hc, ht⟩ := hel i (by omega)
      obtain ⟨bb, e2, _⟩ := DataW.trod_bool Try.underlying4 ht
      simp at e2
      exact ⟨bb, by rw [hc, e2]⟩
    obtain ⟨f, hf⟩ := Deep.choose_lt hex
    refine ⟨some a, len, cap, f, hcs, by unfold maxLen at hmx; omega, fun hn => ?_⟩
    obtain ⟨b, off, spot⟩ := a
    have hspot : spot = none := by
      have := World.cell?_spot (hf 0 hn)
      simpa [Addr.add] using this
    subst hspot
    refine ⟨b, off, rfl, fun j hj => ?_⟩
    have := hf j hj
    simp only [addr_add] at this
    exact this

set_option maxRecDepth 100000 in
theorem open_script {H : Type} {enc : TypeId × Value → H} {W : World} {base : Nat} {v0 : Value} {d0 : DataW H} {p0 : List MemPlace} (hv : Value.okWide Try.prog W .any base 27 v0) (h0 : DataW.Trod enc Try.prog W 0 (fun _ => true) true 27 v0 d0 p0) :
    ∃ (W0 H0 D0 S0 : Int) (ao : Option Addr) (n cap : Nat) (A : Nat → Th) (bo : Option Addr) (m cb : Nat) (D : Nat → Bool), v0 = .agg #[.int .i64 W0, .int .i64 H0, .int .i64 D0, .int .i64 S0, .slice ao n cap, .slice bo m cb] ∧ (I64 W0 ∧ I64 H0 ∧ I64 D0 ∧ I64 S0) ∧ ThsAt W ao n A ∧ DueAt W bo m D := by
  obtain ⟨cs, rfl, hsz⟩ := okWide_struct Try.underlying27 hv
  obtain ⟨fuel, hf⟩ := h0
  obtain ⟨L⟩ := cs
  obtain ⟨y0, y1, y2, mm, _, hlen, t0, t1, t2⟩ := Deep.trod_struct3 Try.underlying27 hf
  rw [Try.cells27] at hlen
  simp only [Try.cells23, Try.cells24, Try.cells25] at t0 t1 t2
  simp only [Value.cells] at hlen t0 t1 t2
  obtain ⟨a0, a1, a2, a3, a4, a5, rfl⟩ : ∃ a0 a1 a2 a3 a4 a5, L = [a0, a1, a2, a3, a4, a5] := by
    match L, hlen with
    | [a0, a1, a2, a3, a4, a5], _ => exact ⟨a0, a1, a2, a3, a4, a5, rfl⟩
  simp at t0 t1 t2
  obtain ⟨xs, m, _, rfl, hl, hlen2, hff⟩ := DataW.trod_struct Try.underlying23 t0
  have s0 := hff 0 _ rfl
  have s1 := hff 1 _ rfl
  have s2 := hff 2 _ rfl
  have s3 := hff 3 _ rfl
  simp at s0 s1 s2 s3
  rw [Try.cells3] at s0 s1 s2 s3
  simp only [List.take_succ_cons, List.take_zero] at s0 s1 s2 s3
  match xs, hlen2 with
  | [z0, z1, z2, z3], _ =>
    obtain ⟨k0, e0, _, w0⟩ := DataW.trod_int (x := z0) Try.underlying3 s0
    obtain ⟨k1, e1, _, w1⟩ := DataW.trod_int (x := z1) Try.underlying3 s1
    obtain ⟨k2, e2, _, w2⟩ := DataW.trod_int (x := z2) Try.underlying3 s2
    obtain ⟨k3, e3, _, w3⟩ := DataW.trod_int (x := z3) Try.underlying3 s3
    simp at e0 e1 e2 e3
    subst e0
    subst e1
    subst e2
    subst e3
    obtain ⟨ao, n, cap, A, rfl, hA⟩ := open_ths0 t1
    obtain ⟨bo, m, cb, D, rfl, hD⟩ := open_due0 t2
    have q0 := bounds_i64 w0
    have q1 := bounds_i64 w1
    have q2 := bounds_i64 w2
    have q3 := bounds_i64 w3
    exact ⟨k0, k1, k2, k3, ao, n, cap, A, bo, m, cb, D, rfl, ⟨⟨by omega, by omega⟩, ⟨by omega, by omega⟩, ⟨by omega, by omega⟩, ⟨by omega, by omega⟩⟩, hA, hD⟩

end Go.Proofs.Ytejempbgpkeheaa
