/- The argument of 'ArithReads', opened. -/
import Derived.Test.YtdbblgceeclpaaaOpen
import Derived.Test.YtdbblgceeclpaaaRdP
import Derived.SizedLaws
namespace Go.Proofs.Ytdbblgceeclpaaa
open Go.ChangeShapes Go.WideShapes Go.ChangeAt Go.RowKit

theorem Try.cells66 : Try.prog.cellsOf 66 = 3 := by kernel_rfl
theorem Try.bytes5 : Try.prog.bytesOf 5 = 1 := by kernel_rfl

set_option maxRecDepth 100000 in
theorem open_bytes {H : Type} {enc : TypeId × Value → H} {W : World} {fuel : Nat} {v : Value} {x : DataW H × List MemPlace} (h : DataW.trod enc Try.prog W 0 (fun _ => true) true fuel 22 [v] = some x) :
    ∃ (bo : Option Addr) (bcap : Nat) (l : List Nat), v = .slice bo l.length bcap ∧ (l ≠ [] → ∃ b off, bo = some ⟨b, off, none⟩ ∧ ∀ j, j < l.length → W.cell? ⟨b, off + j, none⟩ = some (.int .u8 (l[j]?.getD 0 : Nat))) ∧ NilOK v ∧ (v = .slice none 0 0 ∨ ∃ a n c, v = .slice (some a) n c) ∧ (∀ y ∈ l, y < 256) ∧
      (l ≠ [] → ∃ elems spare, x.1 = .slice elems spare ∧ l.length ≤ elems.length + spare.length) := by
  rcases open_ints Try.underlying22 Try.underlying5 (by kernel_rfl) h with ⟨hcs, _⟩ | ⟨a, len, c, zs, hcs, _, hl, hm, hz, hx, hcell, hwz⟩
  · simp at hcs
    subst hcs
    exact ⟨none, 0, [], rfl, fun hn => absurd rfl hn, fun n c e => by cases e; exact ⟨rfl, rfl⟩, Or.inl rfl, by simp, by simp⟩
  · simp at hcs
    have hz' : zs.length = c := by simpa using hz
    have hb : ∀ z ∈ zs, 0 ≤ z ∧ z ≤ 255 := fun z hzm => bounds_u8 (hwz _ hzm)
    have hlen : ((zs.take len).map Int.toNat).length = len := by simp; omega
    subst hcs
    refine ⟨some a, c, (zs.take len).map Int.toNat, by rw [hlen], fun hne => ?_, (fun n c e => by cases e), Or.inr ⟨_, _, _, rfl⟩, ?_, fun _ => ⟨_, _, by rw [hx], by simp [lits]⟩⟩
    · have hpos : 0 < len := by rw [← hlen]; exact List.length_pos_iff.2 hne
      obtain ⟨b, off, spot⟩ := a
      have hspot : spot = none := by
        have := World.cell?_spot (hcell 0 (by omega))
        simpa [Addr.add] using this
      subst hspot
      refine ⟨b, off, rfl, fun j hj => ?_⟩
      rw [hlen] at hj
      have h1 := hcell j (by omega)
      rw [addr_add] at h1
      rw [h1]
      have hjz : j < zs.length := by omega
      have hmem : zs[j] ∈ zs := List.getElem_mem _
      have := hb _ hmem
      simp [hj, hjz]
      omega
    · intro y hy
      obtain ⟨z, hz1, rfl⟩ := List.mem_map.1 hy
      have := hb z (List.mem_of_mem_take hz1)
      omega

set_option maxRecDepth 100000 in
theorem open_ints58 {H : Type} {enc : TypeId × Value → H} {W : World} {fuel : Nat} {v : Value} {x : DataW H × List MemPlace} (h : DataW.trod enc Try.prog W 0 (fun _ => true) true fuel 58 [v] = some x) :
    ∃ ao n cap K, v = .slice ao n cap ∧ IntsAt W ao n K := by
  rcases open_ints Try.underlying58 Try.underlying3 (by kernel_rfl) h with ⟨hcs, _⟩ | ⟨a, len, c, zs, hcs, _, hl, hm, hz, _, hcell, hwz⟩
  · simp at hcs
    subst hcs
    exact ⟨none, 0, 0, fun _ => 0, rfl, by omega, by omega, by omega⟩
  · simp at hcs
    have hz' : zs.length = c := by simpa using hz
    subst hcs
    refine ⟨some a, len, c, fun j => zs.getD j 0, rfl, by unfold maxLen at hm; omega, fun hn => ?_, fun j hj => ?_⟩
    · obtain ⟨b, off, spot⟩ := a
      have hspot : spot = none := by
        have := World.cell?_spot (hcell 0 (by omega))
        simpa [Addr.add] using this
      subst hspot
      refine ⟨b, off, rfl, fun j hj => ?_⟩
      have h1 := hcell j (by omega)
      rw [addr_add] at h1
      exact h1
    · have hjz : j < zs.length := by omega
      have hmem : zs[j] ∈ zs := List.getElem_mem _
      have := bounds_i64 (hwz _ hmem)
      show -9223372036854775808 ≤ zs.getD j 0 ∧ zs.getD j 0 ≤ 9223372036854775807
      rw [List.getD_eq_getElem?_getD, List.getElem?_eq_getElem hjz]
      show -9223372036854775808 ≤ zs[j] ∧ zs[j] ≤ 9223372036854775807
      omega

set_option maxRecDepth 100000 in
theorem open_reading {H : Type} {enc : TypeId × Value → H} {W : World} {base : Nat} {v0 : Value} {d0 : DataW H} {p0 : List MemPlace} (hv : Value.okWide Try.prog W .any base 66 v0) (h0 : DataW.Trod enc Try.prog W 0 (fun _ => true) true 66 v0 d0 p0) (hw : ∀ k ∈ d0.weights Try.prog 66, k ≤ reachBytes) :
    ∃ vB B mo ao n cap K, v0 = .agg #[vB, .int .i64 mo, .slice ao n cap] ∧ BytesOK W vB B ∧ (-9223372036854775808 ≤ mo ∧ mo ≤ 9223372036854775807) ∧ IntsAt W ao n K := by
  obtain ⟨c0, c1, c2, y0, y1, y2, m, rfl, rfl, _, hy0, hy1, hy2⟩ := Joins.open_agg3 Try.underlying66 (by kernel_rfl) Try.cells66 hv h0
  obtain ⟨bo, bcap, B, e0, s0, s1, s2, s3, s4⟩ := open_bytes (x := y0) hy0
  obtain ⟨mo, e1, _, w1⟩ := DataW.trod_int Try.underlying3 hy1
  simp at e1
  subst e1
  obtain ⟨ao, n, cap, K, rfl, hi⟩ := open_ints58 hy2
  have b1 := bounds_i64 w1
  have hB : B.length ≤ 140737488351232 := by
    by_cases hne : B = []
    · subst hne; simp
    · obtain ⟨el, sp, e, hle⟩ := s4 hne
      have := hw ((el.length + sp.length) * Try.prog.bytesOf 5) (by simp [DataW.weights, DataW.weightsEach, Try.underlying66, Try.underlying22, e])
      rw [Try.bytes5] at this
      simp only [reachBytes, Nat.mul_one] at this
      omega
  exact ⟨c0, B, mo, ao, n, cap, K, rfl, ⟨⟨bo, bcap, e0, (show B.length ≤ 140737488355328 by omega), s0⟩, s1, s2, s3, hB⟩, by omega, hi⟩

end Go.Proofs.Ytdbblgceeclpaaa
