/- The argument of 'WholeReads', opened. -/
import Derived.Test.YtllhekkclhcdbaaDoorKOpen
import Derived.Test.YtllhekkclhcdbaaDoorKNk
import Derived.Test.YtllhekkclhcdbaaDoorKFlush
import Derived.SizedLaws
namespace Go.Proofs.YtllhekkclhcdbaaDoor
open Go.ChangeShapes Go.WideShapes Go.ChangeAt Go.RowKit

theorem Tryd.cells32 : Tryd.prog.cellsOf 32 = 2 := by kernel_rfl
theorem Tryd.bytes5 : Tryd.prog.bytesOf 5 = 1 := by kernel_rfl

set_option maxRecDepth 100000 in
theorem open_bytes {H : Type} {enc : TypeId × Value → H} {W : World} {fuel : Nat} {v : Value} {x : DataW H × List MemPlace} (h : DataW.trod enc Tryd.prog W 0 (fun _ => true) true fuel 24 [v] = some x) :
    ∃ (bo : Option Addr) (bcap : Nat) (l : List Nat), v = .slice bo l.length bcap ∧ (l ≠ [] → ∃ b off, bo = some ⟨b, off, none⟩ ∧ ∀ j, j < l.length → W.cell? ⟨b, off + j, none⟩ = some (.int .u8 (l[j]?.getD 0 : Nat))) ∧ NilOK v ∧ (v = .slice none 0 0 ∨ ∃ a n c, v = .slice (some a) n c) ∧ (∀ y ∈ l, y < 256) ∧
      (l ≠ [] → ∃ elems spare, x.1 = .slice elems spare ∧ l.length ≤ elems.length + spare.length) := by
  rcases open_ints Tryd.underlying24 Tryd.underlying5 (by kernel_rfl) h with ⟨hcs, _⟩ | ⟨a, len, c, zs, hcs, _, hl, hm, hz, hx, hcell, hwz⟩
  · simp at hcs
    subst hcs
    exact ⟨none, 0, [], rfl, fun hn => absurd rfl hn, fun n c e => by cases e; exact ⟨rfl, rfl⟩, Or.inl rfl, by simp, by simp⟩
  · simp at hcs
    have hz' : zs.length = c := by simpa using hz
    have hb : ∀ z ∈ zs, 0 ≤ z ∧ z ≤ 255 := fun z hzm => bounds_u8 (hwz _ hzm)
    have hlen : ((zs.take len).map Int.toNat).length = len := by simp; omega
    subst hcs
    refine ⟨some a, c, (zs.take len).map Int.toNat, by rw [hlen], fun hne => ?_, (fun n c e => by cases e), Or.inr ⟨_, _, _, rfl⟩, ?_, fun _ => ⟨_, _, by rw [hx], by simp [lits]⟩⟩
    · have hpos : 0 < len := by rw [← hlen]; exact List.length_pos_iff.2 hne
      obtain ⟨b, off, spot⟩ := a
      have hspot : spot = none := by
        have := World.cell?_spot (hcell 0 (by omega))
        simpa [Addr.add] using this
      subst hspot
      refine ⟨b, off, rfl, fun j hj => ?_⟩
      rw [hlen] at hj
      have h1 := hcell j (by omega)
      rw [addr_add] at h1
      rw [h1]
      have hjz : j < zs.length := by omega
      have hmem : zs[j] ∈ zs := List.getElem_mem _
      have := hb _ hmem
      simp [hj, hjz]
      omega
    · intro y hy
      obtain ⟨z, hz1, rfl⟩ := List.mem_map.1 hy
      have := hb z (List.mem_of_mem_take hz1)
      omega

set_option maxRecDepth 100000 in
theorem open_reading {H : Type} {enc : TypeId × Value → H} {W : World} {base : Nat} {v0 : Value} {d0 : DataW H} {p0 : List MemPlace} (hv : Value.okWide Tryd.prog W .any base 32 v0) (h0 : DataW.Trod enc Tryd.prog W 0 (fun _ => true) true 32 v0 d0 p0) (hw : ∀ k ∈ d0.weights Tryd.prog 32, k ≤ reachBytes) :
    ∃ vB B z, v0 = .agg #[vB, .int .i64 z] ∧ SeenAt W vB B ∧ NilOK vB ∧ (vB = .slice none 0 0 ∨ ∃ a n c, vB = .slice (some a) n c) ∧ (∀ y ∈ B, y < 256) ∧ B.length ≤ 140737488351232 := by
  obtain ⟨c0, c1, y0, y1, m, rfl, rfl, _, hy0, hy1⟩ := Joins.open_agg2 Tryd.underlying32 (by kernel_rfl) Tryd.cells32 hv h0
  obtain ⟨bo, bcap, B, e0, s0, s1, s2, s3, s4⟩ := open_bytes (x := y0) hy0
  obtain ⟨mo, e1, _, w1⟩ := DataW.trod_int Tryd.underlying3 hy1
  simp at e1
  subst e1
  have hB : B.length ≤ 140737488351232 := by
    by_cases hne : B = []
    · subst hne; simp
    · obtain ⟨el, sp, e, hle⟩ := s4 hne
      have := hw ((el.length + sp.length) * Tryd.prog.bytesOf 5) (by simp [DataW.weights, DataW.weightsEach, Tryd.underlying32, Tryd.underlying24, e])
      rw [Tryd.bytes5] at this
      simp only [reachBytes, Nat.mul_one] at this
      omega
  exact ⟨c0, B, mo, rfl, ⟨bo, bcap, e0, by omega, s0⟩, s1, s2, s3, hB⟩

end Go.Proofs.YtllhekkclhcdbaaDoor
