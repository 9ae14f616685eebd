/- The arguments of the laws, opened: a slice of Readings. -/
import Derived.Test.YtkggdnkmaldmlaaK39
import Derived.Test.YtkggdnkmaldmlaaK43
import Derived.SizedLaws
namespace Go.Proofs.Ytkggdnkmaldmlaa
open Go.ChangeShapes Go.WideShapes Go.ChangeAt Go.RowKit

theorem Try.cells40 : Try.prog.cellsOf 40 = 5 := by kernel_rfl
theorem Try.cells30 : Try.prog.cellsOf 30 = 1 := by kernel_rfl
theorem Try.bytes5 : Try.prog.bytesOf 5 = 1 := by kernel_rfl

set_option maxRecDepth 100000 in
theorem open_bytes {H : Type} {enc : TypeId × Value → H} {W : World} {fuel : Nat} {v : Value} {x : DataW H × List MemPlace} (h : DataW.trod enc Try.prog W 0 (fun _ => true) true fuel 30 [v] = some x) :
    ∃ (bo : Option Addr) (bcap : Nat) (l : List Nat), v = .slice bo l.length bcap ∧ (l ≠ [] → ∃ b off, bo = some ⟨b, off, none⟩ ∧ ∀ j, j < l.length → W.cell? ⟨b, off + j, none⟩ = some (.int .u8 (l[j]?.getD 0 : Nat))) ∧ NilOK v ∧ (v = .slice none 0 0 ∨ ∃ a n c, v = .slice (some a) n c) ∧ (∀ y ∈ l, y < 256) ∧
      (l ≠ [] → ∃ elems spare, x.1 = .slice elems spare ∧ l.length ≤ elems.length + spare.length) := by
  rcases open_ints Try.underlying30 Try.underlying5 (by kernel_rfl) h with ⟨hcs, _⟩ | ⟨a, len, c, zs, hcs, _, hl, hm, hz, hx, hcell, hwz⟩
  · simp at hcs
    subst hcs
    exact ⟨none, 0, [], rfl, fun hn => absurd rfl hn, fun n c e => by cases e; exact ⟨rfl, rfl⟩, Or.inl rfl, by simp, by simp⟩
  · simp at hcs
    have hz' : zs.length = c := by simpa using hz
    have hb : ∀ z ∈ zs, 0 ≤ z ∧ z ≤ 255 := fun z hzm => bounds_u8 (hwz _ hzm)
    have hlen : ((zs.take len).map Int.toNat).length = len := by simp; omega
    subst hcs
    refine ⟨some a, c, (zs.take len).map Int.toNat, by rw [hlen], fun hne => ?_, (fun n c e => by cases e), Or.inr ⟨_, _, _, rfl⟩, ?_, fun _ => ⟨_, _, by rw [hx], by simp [lits]⟩⟩
    · have hpos : 0 < len := by rw [← hlen]; exact List.length_pos_iff.2 hne
      obtain ⟨b, off, spot⟩ := a
      have hspot : spot = none := by
        have := World.cell?_spot (hcell 0 (by omega))
        simpa [Addr.add] using this
      subst hspot
      refine ⟨b, off, rfl, fun j hj => ?_⟩
      rw [hlen] at hj
      have h1 := hcell j (by omega)
      rw [addr_add] at h1
      rw [h1]
      have hjz : j < zs.length := by omega
      have hmem : zs[j] ∈ zs := List.getElem_mem _
      have := hb _ hmem
      simp [hj, hjz]
      omega
    · intro y hy
      obtain ⟨z, hz1, rfl⟩ := List.mem_map.1 hy
      have := hb z (List.mem_of_mem_take hz1)
      omega

set_option maxRecDepth 100000 in
theorem reading_elem {H : Type} {enc : TypeId × Value → H} {W : World} {n : Nat} {cs : List Value} {x : DataW H × List MemPlace} (h : DataW.trod enc Try.prog W 0 (fun _ => true) true n 40 cs = some x) (hw : ∀ k ∈ x.1.weights Try.prog 40, k ≤ reachBytes) :
    ∃ r : Rk, cs = r.cells ∧ RkOK W r := by
  obtain ⟨xs, m, _, rfl, hl, hlen, hf⟩ := DataW.trod_struct Try.underlying40 h
  rw [Try.cells40] at hl
  obtain ⟨a0, a1, a2, a3, a4, rfl⟩ : ∃ a0 a1 a2 a3 a4, cs = [a0, a1, a2, a3, a4] := by
    match cs, hl with
    | [a0, a1, a2, a3, a4], _ => exact ⟨a0, a1, a2, a3, a4, rfl⟩
  have t0 := hf 0 _ rfl
  have t1 := hf 1 _ rfl
  have t2 := hf 2 _ rfl
  have t3 := hf 3 _ rfl
  have t4 := hf 4 _ rfl
  simp at t0 t1 t2 t3 t4
  rw [Try.cells30] at t0
  rw [Try.cells3] at t1 t2 t3
  rw [Try.cells4] at t4
  simp only [List.take_succ_cons, List.take_zero] at t0 t1 t2 t3 t4
  match xs, hlen with
  | [y0, y1, y2, y3, y4], _ =>
    obtain ⟨bo, bcap, B, e0, s0, s1, s2, s3, s4⟩ := open_bytes (x := y0) t0
    obtain ⟨k1, e1, _, w1⟩ := DataW.trod_int (x := y1) Try.underlying3 t1
    obtain ⟨k2, e2, _, w2⟩ := DataW.trod_int (x := y2) Try.underlying3 t2
    obtain ⟨k3, e3, _, w3⟩ := DataW.trod_int (x := y3) Try.underlying3 t3
    obtain ⟨k4, e4, _⟩ := DataW.trod_bool (x := y4) Try.underlying4 t4
    simp at e1 e2 e3 e4
    subst e1
    subst e2
    subst e3
    subst e4
    have c1 := bounds_i64 w1
    have c2 := bounds_i64 w2
    have hB : B.length ≤ 140737488351232 := by
      by_cases hne : B = []
      · subst hne; simp
      · obtain ⟨el, sp, e, hle⟩ := s4 hne
        have := hw ((el.length + sp.length) * Try.prog.bytesOf 5) (by simp [DataW.weights, DataW.weightsEach, Try.underlying40, Try.underlying30, e])
        rw [Try.bytes5] at this
        simp only [reachBytes, Nat.mul_one] at this
        omega
    exact ⟨⟨a0, B, k1, k2, k3, k4⟩, rfl, ⟨bo, bcap, e0, (show B.length ≤ 140737488355328 by omega), s0⟩, s1, s2, s3, hB, by omega, by omega⟩

theorem weightsAll_mem {H : Type} {P : Program} {e : TypeId} : ∀ {l : List (DataW H)} {d : DataW H}, d ∈ l → ∀ n ∈ d.weights P e, n ∈ DataW.weightsAll P e l
  | d0 :: l, d, hd, n, hn => by
    simp only [DataW.weightsAll, List.mem_append]
    rcases List.mem_cons.1 hd with rfl | hd
    · exact Or.inl hn
    · exact Or.inr (weightsAll_mem hd n hn)

set_option maxRecDepth 100000 in
theorem open_reads0 {H : Type} {enc : TypeId × Value → H} {W : World} {fuel : Nat} {v : Value} {x : DataW H × List MemPlace} (h : DataW.trod enc Try.prog W 0 (fun _ => true) true fuel 38 [v] = some x) (hw : ∀ k ∈ x.1.weights Try.prog 38, k ≤ reachBytes) :
    ∃ ao n cap A, v = .slice ao n cap ∧ ReadsAt W ao n A := by
  rcases Deep.open_slice Try.underlying38 h with ⟨hcs, _⟩ | ⟨a, len, cap, m, f, D, Pl, hcs, _, hlc, hmx, hm, hx, hel⟩
  · simp at hcs
    exact ⟨none, 0, 0, fun _ => ⟨.slice none 0 0, [], 0, 0, 0, false⟩, hcs, by omega, by omega, by omega⟩
  · simp at hcs
    have hlm : len ≤ m := by rw [hm]; split <;> omega
    have hex : ∀ i, i < len → ∃ y : Rk, (W.cell? ((a.add (i * 5)).add 0) = some y.f ∧ W.cell? ((a.add (i * 5)).add 1) = some (.int .i64 y.x) ∧ W.cell? ((a.add (i * 5)).add 2) = some (.int .i64 y.y) ∧ W.cell? ((a.add (i * 5)).add 3) = some (.int .i64 y.t) ∧ W.cell? ((a.add (i * 5)).add 4) = some (.bool y.sk)) ∧ RkOK W y := by
      intro i hi
      obtain ⟨cs', hc, ht⟩ := hel i (by omega)
      obtain ⟨rk, rfl, b0⟩ := reading_elem ht (fun k hk => hw k (by
        rw [hx]
        simp only [DataW.weights, Try.underlying38, List.mem_cons, List.mem_append]
        exact Or.inr (Or.inl (weightsAll_mem (List.mem_map.2 ⟨i, List.mem_range.2 hi, rfl⟩) k hk))))
      rw [Try.cells40] at hc
      have hcc := (World.cells?_some hc).2.2
      exact ⟨rk, ⟨hcc 0 (by omega), hcc 1 (by omega), hcc 2 (by omega), hcc 3 (by omega), hcc 4 (by omega)⟩, b0⟩
    have : Nonempty Rk := ⟨⟨.slice none 0 0, [], 0, 0, 0, false⟩⟩
    have hinh : Inhabited Rk := ⟨⟨.slice none 0 0, [], 0, 0, 0, false⟩⟩
    obtain ⟨f, hf⟩ := Deep.choose_lt hex
    refine ⟨some a, len, cap, f, hcs, by unfold maxLen at hmx; omega, fun hn => ?_, fun j hj => (hf j hj).2⟩
    obtain ⟨b, off, spot⟩ := a
    have hspot : spot = none := by
      have := World.cell?_spot (hf 0 hn).1.1
      simpa [Addr.add] using this
    subst hspot
    refine ⟨b, off, rfl, fun j hj => ?_⟩
    have := (hf j hj).1
    simp only [addr_add] at this
    exact this

end Go.Proofs.Ytkggdnkmaldmlaa
