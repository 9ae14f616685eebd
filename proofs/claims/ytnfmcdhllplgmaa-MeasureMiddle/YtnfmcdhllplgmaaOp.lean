/- The arguments of the laws, opened: pairs of numbers, words. -/
import Derived.Test.YtnfmcdhllplgmaaFrame
import Derived.Test.YtnfmcdhllplgmaaProg
import Derived.ProofKit
import Derived.OpenShut
import Derived.ChangeOld
import Derived.Lib.SmallJoins
import Derived.Deep.Slices
import Derived.Deep.Strs
namespace Go.Proofs.Ytnfmcdhllplgmaa
open Go.ChangeShapes Go.WideShapes Go.ChangeAt Go.RowKit

theorem Try.own : ownKnob Try.prog.godebug = none := by kernel_rfl
theorem Try.laidOut : laidOutB Try.prog = true := by kernel_rfl
theorem Try.cells3 : Try.prog.cellsOf 3 = 1 := by kernel_rfl
theorem Try.cells28 : Try.prog.cellsOf 28 = 2 := by kernel_rfl
theorem Try.cells35 : Try.prog.cellsOf 35 = 1 := by kernel_rfl
theorem Try.cells37 : Try.prog.cellsOf 37 = 1 := by kernel_rfl

theorem addr_add (b off j : Nat) : (⟨b, off, none⟩ : Addr).add j = ⟨b, off + j, none⟩ := by
  unfold Addr.add; split <;> simp_all
theorem seen_lt {w : World} {b o : Nat} {v : Value} (h : w.cell? ⟨b, o, none⟩ = some v) : b < w.heap.size := by
  unfold World.cell? at h
  cases hb : w.heap[b]? with
  | none => simp [hb] at h
  | some o => exact lt_of_block hb
theorem Fr.cellEq {S : Nat → Prop} {w w' : World} (f : Fr S w w') {b o : Nat} (hb : b < w.heap.size) (hs : ¬ S b) : w'.cell? ⟨b, o, none⟩ = w.cell? ⟨b, o, none⟩ := by
  simp only [World.cell?, f.block b hb hs]

/-- Numbers that an int holds. -/
def I64 (x : Int) : Prop := -9223372036854775808 ≤ x ∧ x ≤ 9223372036854775807
/-- Pairs of numbers in a row. -/
def PairsAt (w : World) (ao : Option Addr) (n : Nat) (F G : Nat → Int) : Prop :=
  0 < n → ∃ b off, ao = some ⟨b, off, none⟩ ∧ ∀ j, j < n → w.cell? ⟨b, off + j * 2, none⟩ = some (.int .i64 (F j)) ∧ w.cell? ⟨b, off + j * 2 + 1, none⟩ = some (.int .i64 (G j))
theorem PairsAt.kept {w w' : World} {ao : Option Addr} {n : Nat} {F G : Nat → Int} (h : PairsAt w ao n F G) (f : Fr (fun _ => False) w w') : PairsAt w' ao n F G := by
  intro hn
  obtain ⟨b, off, e, hc⟩ := h hn
  refine ⟨b, off, e, fun j hj => ?_⟩
  obtain ⟨h0, h1⟩ := hc j hj
  rw [f.cellEq (seen_lt h0) (fun h => h), f.cellEq (seen_lt h1) (fun h => h)]
  exact ⟨h0, h1⟩
/-- Words in a row. -/
def WordsAt (w : World) (ao : Option Addr) (n : Nat) (F : Nat → Nat) : Prop :=
  0 < n → ∃ b off, ao = some ⟨b, off, none⟩ ∧ ∀ j, j < n → w.cell? ⟨b, off + j, none⟩ = some (.int .u64 (F j : Nat))
theorem WordsAt.kept {w w' : World} {ao : Option Addr} {n : Nat} {F : Nat → Nat} (h : WordsAt w ao n F) (f : Fr (fun _ => False) w w') : WordsAt w' ao n F := by
  intro hn
  obtain ⟨b, off, e, hc⟩ := h hn
  refine ⟨b, off, e, fun j hj => ?_⟩
  have h0 := hc j hj
  rw [f.cellEq (seen_lt h0) (fun h => h)]
  exact h0

theorem pair_elem {H : Type} {enc : TypeId × Value → H} {W : World} {base n : Nat} {sp : Nat → Bool} {hd : Bool} {cs : List Value} {x : DataW H × List MemPlace} (h : DataW.trod enc Try.prog W base sp hd n 28 cs = some x) :
    ∃ (k d : Int), cs = [.int .i64 k, .int .i64 d] ∧ I64 k ∧ I64 d := by
  obtain ⟨y0, y1, m, _, hlen, t0, t1⟩ := trod_struct2 Try.underlying28 h
  rw [Try.cells28] at hlen
  obtain ⟨a, b, rfl⟩ : ∃ a b, cs = [a, b] := by
    match cs, hlen with
    | [a, b], _ => exact ⟨a, b, rfl⟩
  simp only [Try.cells3] at t0 t1
  obtain ⟨k0, e0, _, w0⟩ := DataW.trod_int Try.underlying3 t0
  obtain ⟨k1, e1, _, w1⟩ := DataW.trod_int Try.underlying3 t1
  simp at e0 e1
  subst e0; subst e1
  exact ⟨k0, k1, rfl, bounds_i64 w0, bounds_i64 w1⟩

set_option maxRecDepth 100000 in
theorem open_pairs {H : Type} {enc : TypeId × Value → H} {W : World} {base : Nat} {v0 : Value} {d0 : DataW H} {p0 : List MemPlace} (hv : Value.okWide Try.prog W .any base 22 v0) (h0 : DataW.Trod enc Try.prog W 0 (fun _ => true) true 22 v0 d0 p0) :
    ∃ ao n cap F G, v0 = .slice ao n cap ∧ n ≤ 9223372036854775807 ∧ PairsAt W ao n F G ∧ ∀ j, j < n → I64 (F j) ∧ I64 (G j) := by
  obtain ⟨ao, n, cap, rfl⟩ := okWide_slice Try.underlying22 hv
  obtain ⟨fuel, h⟩ := h0
  rcases Deep.open_slice Try.underlying22 h with ⟨hcs, _⟩ | ⟨a, len, cap', m, f, D, Pl, hcs, _, hlc, hmx, hm, _, hel⟩
  · simp [Value.cells] at hcs
    obtain ⟨rfl, rfl, rfl⟩ := hcs
    exact ⟨none, 0, 0, fun _ => 0, fun _ => 0, rfl, by omega, fun hn => absurd hn (by omega), fun j hj => absurd hj (by omega)⟩
  · simp [Value.cells] at hcs
    obtain ⟨rfl, rfl, rfl⟩ := hcs
    have hlm : n ≤ m := by rw [hm]; split <;> omega
    have hex : ∀ i, i < n → ∃ y : Int × Int, (W.cell? ((a.add (i * 2)).add 0) = some (.int .i64 y.1) ∧ W.cell? ((a.add (i * 2)).add 1) = some (.int .i64 y.2)) ∧ I64 y.1 ∧ I64 y.2 := by
      intro i hi
      obtain ⟨cs', hc, ht⟩ := hel i (by omega)
      obtain ⟨kd, dd, rfl, b1, b2⟩ := pair_elem ht
      rw [Try.cells28] at hc
      have hcc := (World.cells?_some hc).2.2
      exact ⟨(kd, dd), ⟨hcc 0 (by omega), hcc 1 (by omega)⟩, b1, b2⟩
    obtain ⟨f, hf⟩ := Deep.choose_lt hex
    refine ⟨some a, n, cap, fun j => (f j).1, fun j => (f j).2, rfl, by unfold maxLen at hmx; omega, fun hn => ?_, fun j hj => (hf j hj).2⟩
    obtain ⟨b, off, spot⟩ := a
    have hspot : spot = none := by
      have := World.cell?_spot (hf 0 hn).1.1
      simpa [Addr.add] using this
    subst hspot
    refine ⟨b, off, rfl, fun j hj => ?_⟩
    have := (hf j hj).1
    rw [addr_add, addr_add, addr_add] at this
    exact this

theorem open_ws {H : Type} {enc : TypeId × Value → H} {W : World} {fuel : Nat} {sp : Nat → Bool} {hd : Bool} {v : Value} {x : DataW H × List MemPlace} (h : DataW.trod enc Try.prog W 0 sp hd fuel 35 [v] = some x) :
    ∃ ao n cap F, v = .slice ao n cap ∧ n ≤ 9223372036854775807 ∧ WordsAt W ao n F ∧ ∀ j, F j < 18446744073709551616 := by
  rcases open_ints Try.underlying35 Try.underlying39 (by kernel_rfl) h with ⟨hcs, _⟩ | ⟨x, l, c, zs, hcs, _, hl, hm, hz, _, hcell, hwz⟩
  · simp at hcs
    subst hcs
    exact ⟨none, 0, 0, fun _ => 0, rfl, by omega, fun hn => absurd hn (by omega), fun _ => Nat.zero_lt_succ _⟩
  · simp at hcs
    subst hcs
    have hlz : l ≤ zs.length := by
      have := hz
      split at this <;> omega
    have hb : ∀ z ∈ zs, 0 ≤ z ∧ z ≤ 18446744073709551615 := fun z hmem => bounds_u64 (hwz _ hmem)
    refine ⟨some x, l, c, fun j => (zs.getD j 0).toNat, rfl, by unfold maxLen at hm; omega, fun hl0 => ?_, fun j => ?_⟩
    · obtain ⟨b, off, spot⟩ := x
      have hspot : spot = none := by
        have := World.cell?_spot (hcell 0 (by omega))
        simpa [Addr.add] using this
      subst hspot
      refine ⟨b, off, rfl, fun j hj => ?_⟩
      have h1 := hcell j (by omega)
      rw [addr_add] at h1
      rw [h1]
      have h3 : 0 ≤ zs.getD j 0 := by
        have hmem : zs.getD j 0 ∈ zs := by
          rw [List.getD_eq_getElem?_getD, List.getElem?_eq_getElem (by omega)]; exact List.getElem_mem _
        exact (hb _ hmem).1
      simp only [Int.toNat_of_nonneg h3]
    · by_cases hj : j < zs.length
      · have hmem : zs.getD j 0 ∈ zs := by
          rw [List.getD_eq_getElem?_getD, List.getElem?_eq_getElem hj]; exact List.getElem_mem _
        have := hb _ hmem
        show (zs.getD j 0).toNat < _
        omega
      · show (zs.getD j 0).toNat < _
        rw [List.getD_eq_getElem?_getD, List.getElem?_eq_none (by omega)]; decide

set_option maxRecDepth 100000 in
theorem open_floats {H : Type} {enc : TypeId × Value → H} {W : World} {base : Nat} {v0 : Value} {d0 : DataW H} {p0 : List MemPlace} (hv : Value.okWide Try.prog W .any base 37 v0) (h0 : DataW.Trod enc Try.prog W 0 (fun _ => true) true 37 v0 d0 p0) :
    ∃ ao n cap F, v0 = .agg #[.slice ao n cap] ∧ n ≤ 9223372036854775807 ∧ WordsAt W ao n F ∧ ∀ j, F j < 18446744073709551616 := by
  obtain ⟨cs, rfl, hsz⟩ := okWide_struct Try.underlying37 hv
  obtain ⟨fuel, hf⟩ := h0
  obtain ⟨xs, m, _, _, hl, hlen, hff⟩ := DataW.trod_struct Try.underlying37 hf
  rw [Try.cells37] at hl
  obtain ⟨L⟩ := cs
  simp only [Value.cells] at hl hff
  obtain ⟨a0, rfl⟩ : ∃ a0, L = [a0] := by
    match L, hl with
    | [a0], _ => exact ⟨a0, rfl⟩
  have t0 := hff 0 _ rfl
  simp at t0
  rw [Try.cells35] at t0
  simp only [List.take_succ_cons, List.take_zero] at t0
  match xs, hlen with
  | [y0], _ =>
    obtain ⟨ao, n, cap, F, rfl, h1, h2, h3⟩ := open_ws (x := y0) t0
    exact ⟨ao, n, cap, F, rfl, h1, h2, h3⟩

end Go.Proofs.Ytnfmcdhllplgmaa
