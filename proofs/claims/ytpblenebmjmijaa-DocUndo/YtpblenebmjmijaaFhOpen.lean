/- The law's script opened. -/
import Derived.Test.YtpblenebmjmijaaFh
import Derived.LaidMore
import Derived.ProofKit
import Derived.OpenShut
import Derived.ChangeOld
import Derived.Lib.SmallJoins
import Derived.Deep.Slices
import Derived.Deep.Strs
namespace Go.Proofs.Ytpblenebmjmijaa
open Go.ChangeShapes Go.WideShapes Go.ChangeAt Go.RowKit

theorem Try.own : ownKnob Try.prog.godebug = none := by kernel_rfl
theorem Try.laidOut : laidOutB Try.prog = true := by kernel_rfl
theorem Try.cells3 : Try.prog.cellsOf 3 = 1 := by kernel_rfl
theorem Try.cells4 : Try.prog.cellsOf 4 = 1 := by kernel_rfl
theorem Try.cells22 : Try.prog.cellsOf 22 = 1 := by kernel_rfl
theorem Try.cells24 : Try.prog.cellsOf 24 = 1 := by kernel_rfl
theorem Try.cells28 : Try.prog.cellsOf 28 = 9 := by kernel_rfl
theorem Try.cells29 : Try.prog.cellsOf 29 = 1 := by kernel_rfl
theorem Try.cells31 : Try.prog.cellsOf 31 = 6 := by kernel_rfl
theorem Try.cells32 : Try.prog.cellsOf 32 = 1 := by kernel_rfl
theorem Try.cells34 : Try.prog.cellsOf 34 = 17 := by kernel_rfl
theorem addr_add (b off j : Nat) : (⟨b, off, none⟩ : Addr).add j = ⟨b, off + j, none⟩ := by
  unfold Addr.add; split <;> simp_all
theorem trod_float {H : Type} {enc : TypeId × Value → H} {P : Program} {w : World} {base : Nat} {spare : Nat → Bool} {held : Bool} {fuel : Nat} {t : TypeId} {cs : List Value} {x : DataW H × List MemPlace} {k : FloatKind} (ht : P.underlying t = some (.float k)) (h : DataW.trod enc P w base spare held fuel t cs = some x) : ∃ n, cs = [.float k n] := by
  cases fuel with
  | zero => simp [DataW.trod] at h
  | succ n =>
    unfold DataW.trod at h
    rw [ht] at h
    split at h <;> simp_all

set_option maxRecDepth 100000 in
theorem int_of {H : Type} {enc : TypeId × Value → H} {W : World} {n : Nat} {sp : Nat → Bool} {hd : Bool} {a : Value} {o : Option (DataW H × List MemPlace)} (h : DataW.trod enc Try.prog W 0 sp hd n 3 [a] = o) (hs : o.isSome = true) :
    ∃ k : Int, a = .int .i64 k ∧ I64 k := by
  obtain ⟨x, rfl⟩ := Option.isSome_iff_exists.1 hs
  obtain ⟨k, e, _, w0⟩ := DataW.trod_int Try.underlying3 h
  simp at e
  have b := bounds_i64 w0
  exact ⟨k, e, by unfold I64; omega⟩

set_option maxRecDepth 100000 in
theorem opts_elem {H : Type} {enc : TypeId × Value → H} {W : World} {n : Nat} {sp : Nat → Bool} {hd : Bool} {a0 a1 a2 a3 a4 a5 : Value} {x : DataW H × List MemPlace} (h : DataW.trod enc Try.prog W 0 sp hd n 31 [a0, a1, a2, a3, a4, a5] = some x) :
    ∃ (m0 m1 m2 m3 : Int) (fl : Nat) (r : Bool), a0 = .int .i64 m0 ∧ a1 = .int .i64 m1 ∧ a2 = .int .i64 m2 ∧ a3 = .int .i64 m3 ∧ a4 = .float .f64 fl ∧ a5 = .bool r := by
  obtain ⟨xs, n', _, _, _, hl, hf⟩ := DataW.trod_struct Try.underlying31 h
  have hx : ∀ i, i < 6 → (xs[i]?).isSome = true := fun i hi => by
    rw [List.getElem?_eq_getElem (by rw [hl]; exact hi)]; rfl
  have t0 := hf 0 _ rfl
  have t1 := hf 1 _ rfl
  have t2 := hf 2 _ rfl
  have t3 := hf 3 _ rfl
  have t4 := hf 4 _ rfl
  have t5 := hf 5 _ rfl
  obtain ⟨m0, e0, _⟩ := int_of (a := a0) (by simpa [Try.cells3] using t0) (hx 0 (by omega))
  obtain ⟨m1, e1, _⟩ := int_of (a := a1) (by simpa [Try.cells3] using t1) (hx 1 (by omega))
  obtain ⟨m2, e2, _⟩ := int_of (a := a2) (by simpa [Try.cells3] using t2) (hx 2 (by omega))
  obtain ⟨m3, e3, _⟩ := int_of (a := a3) (by simpa [Try.cells3] using t3) (hx 3 (by omega))
  obtain ⟨y4, h4⟩ := Option.isSome_iff_exists.1 (hx 4 (by omega))
  obtain ⟨y5, h5⟩ := Option.isSome_iff_exists.1 (hx 5 (by omega))
  rw [h4] at t4
  rw [h5] at t5
  obtain ⟨fl, e4⟩ := trod_float Try.underlying29 t4
  obtain ⟨r, e5, _⟩ := DataW.trod_bool Try.underlying4 t5
  simp [Try.cells29] at e4
  simp [Try.cells4] at e5
  exact ⟨m0, m1, m2, m3, fl, r, e0, e1, e2, e3, e4, e5⟩

set_option maxRecDepth 100000 in
theorem op_elem {H : Type} {enc : TypeId × Value → H} {W : World} {n : Nat} {sp : Nat → Bool} {hd : Bool} {cs : List Value} {x : DataW H × List MemPlace} (h : DataW.trod enc Try.prog W 0 sp hd n 34 cs = some x) :
    ∃ o : Opx, cs = opxCells o ∧ I64 o.D ∧ ∀ c, c < 9 → I64 (o.N c) := by
  obtain ⟨y0, y1, y2, y3, m, _, hlen, t0, t1, t2, t3⟩ := Joins.trod_struct4 Try.underlying34 h
  rw [Try.cells34] at hlen
  simp only [Try.cells3, Try.cells28, Try.cells31, Try.cells32] at t0 t1 t2 t3
  obtain ⟨xs, k, _, _, hl9, hxs, hel⟩ := DataW.trod_array Try.underlying28 t1
  clear hl9 t1
  match cs, hlen with
  | [a0, a1, a2, a3, a4, a5, a6, a7, a8, a9, a10, a11, a12, a13, a14, a15, a16], _ =>
    obtain ⟨d, rfl, gd⟩ := int_of (a := a0) t0 rfl
    obtain ⟨q0, rfl, g0⟩ := int_of (a := a1) (o := xs[0]?) (by simpa [Try.cells3] using hel 0 (by omega)) (by simp [hxs])
    obtain ⟨q1, rfl, g1⟩ := int_of (a := a2) (o := xs[1]?) (by simpa [Try.cells3] using hel 1 (by omega)) (by simp [hxs])
    obtain ⟨q2, rfl, g2⟩ := int_of (a := a3) (o := xs[2]?) (by simpa [Try.cells3] using hel 2 (by omega)) (by simp [hxs])
    obtain ⟨q3, rfl, g3⟩ := int_of (a := a4) (o := xs[3]?) (by simpa [Try.cells3] using hel 3 (by omega)) (by simp [hxs])
    obtain ⟨q4, rfl, g4⟩ := int_of (a := a5) (o := xs[4]?) (by simpa [Try.cells3] using hel 4 (by omega)) (by simp [hxs])
    obtain ⟨q5, rfl, g5⟩ := int_of (a := a6) (o := xs[5]?) (by simpa [Try.cells3] using hel 5 (by omega)) (by simp [hxs])
    obtain ⟨q6, rfl, g6⟩ := int_of (a := a7) (o := xs[6]?) (by simpa [Try.cells3] using hel 6 (by omega)) (by simp [hxs])
    obtain ⟨q7, rfl, g7⟩ := int_of (a := a8) (o := xs[7]?) (by simpa [Try.cells3] using hel 7 (by omega)) (by simp [hxs])
    obtain ⟨q8, rfl, g8⟩ := int_of (a := a9) (o := xs[8]?) (by simpa [Try.cells3] using hel 8 (by omega)) (by simp [hxs])
    obtain ⟨m0, m1, m2, m3, fl, r, rfl, rfl, rfl, rfl, rfl, rfl⟩ := opts_elem t2
    obtain ⟨t, e, _, _⟩ := DataW.trod_int Try.underlying32 t3
    simp at e
    subst e
    refine ⟨⟨d, fun c => [q0, q1, q2, q3, q4, q5, q6, q7, q8].getD c 0, m0, m1, m2, m3, fl, r, t⟩, rfl, gd, fun c hc => ?_⟩
    match c, hc with
    | 0, _ => exact g0
    | 1, _ => exact g1
    | 2, _ => exact g2
    | 3, _ => exact g3
    | 4, _ => exact g4
    | 5, _ => exact g5
    | 6, _ => exact g6
    | 7, _ => exact g7
    | 8, _ => exact g8

theorem opxCells_len (o : Opx) : (opxCells o).length = 17 := rfl

set_option maxRecDepth 100000 in
theorem open_ops {H : Type} {enc : TypeId × Value → H} {W : World} {fuel : Nat} {sp : Nat → Bool} {hd : Bool} {v : Value} {x : DataW H × List MemPlace} (h : DataW.trod enc Try.prog W 0 sp hd fuel 22 [v] = some x) :
    ∃ bo nb cb O, v = .slice bo nb cb ∧ OpsAt W bo nb O := by
  rcases Deep.open_slice Try.underlying22 h with ⟨hcs, _⟩ | ⟨a, len, cap, m, f, D, Pl, hcs, _, hlc, hmx, hm, _, hel⟩
  · simp at hcs
    subst hcs
    exact ⟨none, 0, 0, fun _ => ⟨0, fun _ => 0, 0, 0, 0, 0, 0, false, 0⟩, rfl, by omega, fun h => absurd h (by omega), fun j h => absurd h (by omega)⟩
  · simp at hcs
    subst hcs
    have hlm : len ≤ m := by rw [hm]; split <;> omega
    have hex : ∀ i, i < len → ∃ y : Opx, (∀ c v, (opxCells y)[c]? = some v → W.cell? ((a.add (i * 17)).add c) = some v) ∧ I64 y.D ∧ ∀ c, c < 9 → I64 (y.N c) := by
      intro i hi
      obtain ⟨cs', hc, ht⟩ := hel i (by omega)
      obtain ⟨y, rfl, hy1, hy2⟩ := op_elem ht
      rw [Try.cells34] at hc
      have hcc := World.cells?_some hc
      refine ⟨y, fun c v hv => ?_, hy1, hy2⟩
      have hcl : c < 17 := by
        have := (List.getElem?_eq_some_iff.mp hv).1
        rw [opxCells_len] at this; exact this
      exact (hcc.2.2 c (by omega)).trans hv
    have hinh : Inhabited Opx := ⟨⟨0, fun _ => 0, 0, 0, 0, 0, 0, false, 0⟩⟩
    obtain ⟨f, hf⟩ := Deep.choose_lt hex
    refine ⟨some a, len, cap, f, rfl, by unfold maxLen at hmx; omega, fun hn => ?_, fun j hj => (hf j hj).2⟩
    obtain ⟨b, off, spot⟩ := a
    have hspot : spot = none := by
      have := World.cell?_spot ((hf 0 hn).1 0 _ rfl)
      simpa [Addr.add] using this
    subst hspot
    refine ⟨b, off, rfl, fun j hj c v hv => ?_⟩
    have := (hf j hj).1 c v hv
    simp only [addr_add] at this
    exact this

set_option maxRecDepth 100000 in
theorem open_script {H : Type} {enc : TypeId × Value → H} {W : World} {base : Nat} {v0 : Value} {d0 : DataW H} {p0 : List MemPlace} (hv : Value.okWide Try.prog W .any base 24 v0) (h0 : DataW.Trod enc Try.prog W 0 (fun _ => true) true 24 v0 d0 p0) :
    ∃ ao n ca X, v0 = .agg #[.slice ao n ca] ∧ OpsAt W ao n X := by
  obtain ⟨cs, rfl, hsz⟩ := okWide_struct Try.underlying24 hv
  obtain ⟨fuel, hf⟩ := h0
  obtain ⟨y0, m, _, hlen, t0⟩ := trod_struct1 Try.underlying24 hf
  obtain ⟨L⟩ := cs
  simp only [Value.cells] at hlen t0
  rw [Try.cells24] at hlen
  obtain ⟨a, rfl⟩ : ∃ a, L = [a] := by
    match L, hlen with
    | [a], _ => exact ⟨a, rfl⟩
  simp only [Try.cells22] at t0
  obtain ⟨ao, n, ca, X, rfl, h⟩ := open_ops t0
  exact ⟨ao, n, ca, X, rfl, h⟩

end Go.Proofs.Ytpblenebmjmijaa
