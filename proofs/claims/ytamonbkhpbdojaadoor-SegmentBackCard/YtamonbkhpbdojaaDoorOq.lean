/- Arguments opened: segments, a Round. -/
import Derived.Test.YtamonbkhpbdojaaDoorOp
import Derived.Test.YtamonbkhpbdojaaDoorSx
import Derived.SizedLaws
namespace Go.Proofs.YtamonbkhpbdojaaDoor
open Go.ChangeShapes Go.WideShapes Go.ChangeAt Go.RowKit

theorem Tryd.cells22 : Tryd.prog.cellsOf 22 = 1 := by kernel_rfl
theorem Tryd.cells45 : Tryd.prog.cellsOf 45 = 3 := by kernel_rfl
theorem Tryd.bytes5 : Tryd.prog.bytesOf 5 = 1 := by kernel_rfl
theorem Tryd.bytes4 : Tryd.prog.bytesOf 4 = 1 := by kernel_rfl
theorem list3 {α : Type} : ∀ {l : List α}, l.length = 3 → ∃ a b c, l = [a, b, c]
  | [a, b, c], _ => ⟨a, b, c, rfl⟩

set_option maxRecDepth 100000 in
theorem open_refs {H : Type} {enc : TypeId × Value → H} {W : World} {fuel : Nat} {v : Value} {x : DataW H × List MemPlace} (h : DataW.trod enc Tryd.prog W 0 (fun _ => true) true fuel 23 [v] = some x) :
    ∃ l : List Int, RowS W v (iCells l) := by
  rcases open_ints Tryd.underlying23 Tryd.underlying3 (by kernel_rfl) h with ⟨hcs, _⟩ | ⟨a, len, c, zs, hcs, _, hl, hm, hz, hx, hcell, hwz⟩
  · simp at hcs
    subst hcs
    exact ⟨[], none, 0, rfl, by simp [iCells], fun hn => absurd rfl hn⟩
  · simp at hcs
    have hz' : zs.length = c := by simpa using hz
    have hlen : (zs.take len).length = len := by simp; omega
    subst hcs
    unfold maxLen at hm
    refine ⟨zs.take len, some a, c, by rw [length_iCells, hlen], by rw [length_iCells, hlen]; omega, fun hne => ?_⟩
    have hpos : 0 < len := by
      rw [← hlen, ← length_iCells]; exact List.length_pos_iff.2 hne
    obtain ⟨b, off, spot⟩ := a
    have hspot : spot = none := by
      have := World.cell?_spot (hcell 0 (by omega))
      simpa [Addr.add] using this
    subst hspot
    refine ⟨b, off, rfl, fun j hj => ?_⟩
    rw [length_iCells, hlen] at hj
    have h1 := hcell j (by omega)
    rw [addr_add] at h1
    rw [h1, iCells_get _ j (by rw [hlen]; exact hj)]
    have hjz : j < zs.length := by omega
    simp [hj, hjz]

set_option maxRecDepth 100000 in
theorem open_flags {H : Type} {enc : TypeId × Value → H} {W : World} {fuel : Nat} {v : Value} {x : DataW H × List MemPlace} (h : DataW.trod enc Tryd.prog W 0 (fun _ => true) true fuel 24 [v] = some x) :
    ∃ l : List Bool, RowS W v (boolCells l) ∧ (l ≠ [] → ∃ elems spare, x.1 = .slice elems spare ∧ l.length ≤ elems.length + spare.length) := by
  rcases Deep.open_slice Tryd.underlying24 h with ⟨hcs, _⟩ | ⟨a, len, cap, m, f, D, Pl, hcs, _, hlc, hmx, hm, hx, hel⟩
  · simp at hcs
    subst hcs
    exact ⟨[], ⟨none, 0, rfl, by simp [boolCells], fun hn => absurd rfl hn⟩, fun hn => absurd rfl hn⟩
  · simp at hcs
    subst hcs
    have hlm : len ≤ m := by rw [hm]; split <;> omega
    have hex : ∀ i, i < len → ∃ y : Bool, W.cell? ((a.add (i * 1)).add 0) = some (.bool y) := by
      intro i hi
      obtain ⟨cs', hc, ht⟩ := hel i (by omega)
      obtain ⟨k1, e1, _⟩ := DataW.trod_bool Tryd.underlying4 ht
      rw [Tryd.cells4] at hc
      have hcc := (World.cells?_some hc).2.2
      have := hcc 0 (by omega)
      subst e1
      exact ⟨k1, this⟩
    obtain ⟨f, hf⟩ := Deep.choose_lt hex
    unfold maxLen at hmx
    refine ⟨(List.range len).map f, ⟨some a, cap, by rw [length_boolCells]; simp, by rw [length_boolCells]; simp; omega, fun hne => ?_⟩, fun _ => ⟨_, _, by rw [hx], by simp⟩⟩
    have hpos : 0 < len := by
      have := List.length_pos_iff.2 hne
      rw [length_boolCells] at this
      simpa using this
    obtain ⟨b, off, spot⟩ := a
    have hspot : spot = none := by
      have := World.cell?_spot (hf 0 hpos)
      simpa [Addr.add] using this
    subst hspot
    refine ⟨b, off, rfl, fun j hj => ?_⟩
    rw [length_boolCells] at hj
    simp at hj
    have := hf j hj
    simp only [addr_add, Nat.mul_one, Nat.add_zero] at this
    rw [this, boolCells_get _ j (by simpa using hj)]
    simp [hj]

theorem DB0.row {w : World} {ao : Option Addr} {cap : Nat} {l : List Nat} (h : DB0 w ao cap l) : RowS w (.slice ao l.length cap) (byteCells l) := by
  refine ⟨ao, cap, by rw [length_byteCells], ?_, fun hx => ?_⟩
  · have h1 := h.cp
    have h2 := h.cl
    unfold maxLen at h2
    rw [length_byteCells]; omega
  · obtain ⟨b, off, e, hc⟩ := h.seen (fun e => hx (by rw [e]; rfl))
    refine ⟨b, off, e, fun j hj => ?_⟩
    rw [length_byteCells] at hj
    rw [hc j hj, byteCells_get, List.getElem?_eq_getElem hj]; rfl

theorem weightsAll_mem {H : Type} {P : Program} {e : TypeId} : ∀ {l : List (DataW H)} {d : DataW H}, d ∈ l → ∀ n ∈ d.weights P e, n ∈ DataW.weightsAll P e l
  | d0 :: l, d, hd, n, hn => by
    simp only [DataW.weightsAll, List.mem_append]
    rcases List.mem_cons.1 hd with rfl | hd
    · exact Or.inl hn
    · exact Or.inr (weightsAll_mem hd n hn)

set_option maxRecDepth 100000 in
theorem seg_elem {H : Type} {enc : TypeId × Value → H} {W : World} {n : Nat} {cs : List Value} {x : DataW H × List MemPlace} (h : DataW.trod enc Tryd.prog W 0 (fun _ => true) true n 27 cs = some x) (hw : ∀ k ∈ x.1.weights Tryd.prog 27, k ≤ reachBytes) :
    ∃ r : SgR, cs = sgC r.s r.vr r.vk r.vd ∧ SgAt W r.s r.vr r.vk r.vd ∧ r.s.keep.length ≤ 140737488351232 := by
  obtain ⟨ys, m, _, hx, hl, hln, hf⟩ := DataW.trod_struct Tryd.underlying27 h
  rw [Tryd.cells27] at hl
  obtain ⟨c0, c1, c2, c3, c4, c5, c6, rfl⟩ := list7 hl
  obtain ⟨y0, y1, y2, y3, y4, y5, y6, rfl⟩ := list7 (by simpa using hln)
  have t0 := hf 0 _ rfl
  have t1 := hf 1 _ rfl
  have t2 := hf 2 _ rfl
  have t3 := hf 3 _ rfl
  have t4 := hf 4 _ rfl
  have t5 := hf 5 _ rfl
  have t6 := hf 6 _ rfl
  simp [Tryd.cells3, Tryd.cells4, Tryd.cells23, Tryd.cells24, Tryd.cells25] at t0 t1 t2 t3 t4 t5 t6
  obtain ⟨k0, e0, _, _⟩ := DataW.trod_int (x := y0) Tryd.underlying3 t0
  obtain ⟨k1, e1, _, _⟩ := DataW.trod_int (x := y1) Tryd.underlying3 t1
  obtain ⟨k2, e2, _, _⟩ := DataW.trod_int (x := y2) Tryd.underlying3 t2
  obtain ⟨R, h3⟩ := open_refs (x := y3) t3
  obtain ⟨K, h4, w4⟩ := open_flags (x := y4) t4
  obtain ⟨k5, e5, _⟩ := DataW.trod_bool (x := y5) Tryd.underlying4 t5
  obtain ⟨bo, bcap, B, e6, h6, _⟩ := open_bytes (x := y6) t6
  simp at e0 e1 e2 e5
  subst e0 e1 e2 e5 e6
  refine ⟨⟨⟨k0, k1, k2, R, K, k5, B⟩, c3, c4, _⟩, rfl, ⟨h3, h4, h6.row⟩, ?_⟩
  by_cases hne : K = []
  · subst hne; simp
  · obtain ⟨el, sp, e, hle⟩ := w4 hne
    have := hw ((el.length + sp.length) * Tryd.prog.bytesOf 4) (by rw [hx]; simp [DataW.weights, DataW.weightsEach, Tryd.underlying27, Tryd.underlying24, e])
    rw [Tryd.bytes4] at this
    simp only [reachBytes, Nat.mul_one] at this
    show K.length ≤ _
    omega

set_option maxRecDepth 100000 in
theorem open_segs0 {H : Type} {enc : TypeId × Value → H} {W : World} {fuel : Nat} {v : Value} {x : DataW H × List MemPlace} (h : DataW.trod enc Tryd.prog W 0 (fun _ => true) true fuel 22 [v] = some x) (hw : ∀ k ∈ x.1.weights Tryd.prog 22, k ≤ reachBytes) :
    ∃ ao n cap A, v = .slice ao n cap ∧ SgsAt W ao n A ∧ ∀ j, j < n → (A j).s.keep.length ≤ 140737488351232 := by
  rcases Deep.open_slice Tryd.underlying22 h with ⟨hcs, _⟩ | ⟨a, len, cap, m, f, D, Pl, hcs, _, hlc, hmx, hm, hx, hel⟩
  · simp at hcs
    exact ⟨none, 0, 0, fun _ => ⟨⟨0, 0, 0, [], [], false, []⟩, .slice none 0 0, .slice none 0 0, .slice none 0 0⟩, hcs, ⟨by omega, by omega, by omega⟩, by omega⟩
  · simp at hcs
    have hlm : len ≤ m := by rw [hm]; split <;> omega
    have hex : ∀ i, i < len → ∃ y : SgR, (W.cell? ((a.add (i * 7)).add 0) = some (.int .i64 y.s.num) ∧ W.cell? ((a.add (i * 7)).add 1) = some (.int .i64 y.s.kind) ∧ W.cell? ((a.add (i * 7)).add 2) = some (.int .i64 y.s.page) ∧ W.cell? ((a.add (i * 7)).add 3) = some y.vr ∧ W.cell? ((a.add (i * 7)).add 4) = some y.vk ∧ W.cell? ((a.add (i * 7)).add 5) = some (.bool y.s.stay) ∧ W.cell? ((a.add (i * 7)).add 6) = some y.vd) ∧ SgAt W y.s y.vr y.vk y.vd ∧ y.s.keep.length ≤ 140737488351232 := by
      intro i hi
      obtain ⟨cs', hc, ht⟩ := hel i (by omega)
      obtain ⟨rk, rfl, b0, b1⟩ := seg_elem ht (fun k hk => hw k (by
        rw [hx]
        simp only [DataW.weights, Tryd.underlying22, List.mem_cons, List.mem_append]
        exact Or.inr (Or.inl (weightsAll_mem (List.mem_map.2 ⟨i, List.mem_range.2 hi, rfl⟩) k hk))))
      rw [Tryd.cells27] at hc
      have hcc := (World.cells?_some hc).2.2
      exact ⟨rk, ⟨hcc 0 (by omega), hcc 1 (by omega), hcc 2 (by omega), hcc 3 (by omega), hcc 4 (by omega), hcc 5 (by omega), hcc 6 (by omega)⟩, b0, b1⟩
    have hinh : Inhabited SgR := ⟨⟨⟨0, 0, 0, [], [], false, []⟩, .slice none 0 0, .slice none 0 0, .slice none 0 0⟩⟩
    have : Nonempty SgR := ⟨default⟩
    obtain ⟨f, hf⟩ := Deep.choose_lt hex
    refine ⟨some a, len, cap, f, hcs, ⟨by unfold maxLen at hmx; omega, fun hn => ?_, fun j hj => (hf j hj).2.1⟩, fun j hj => (hf j hj).2.2⟩
    obtain ⟨b, off, spot⟩ := a
    have hspot : spot = none := by
      have := World.cell?_spot (hf 0 hn).1.1
      simpa [Addr.add] using this
    subst hspot
    refine ⟨b, off, rfl, fun j hj => ?_⟩
    have := (hf j hj).1
    simp only [addr_add] at this
    exact this

set_option maxRecDepth 100000 in
theorem open_round {H : Type} {enc : TypeId × Value → H} {W : World} {base : Nat} {v0 : Value} {d0 : DataW H} {p0 : List MemPlace} (hv : Value.okWide Tryd.prog W .any base 45 v0) (h0 : DataW.Trod enc Tryd.prog W 0 (fun _ => true) true 45 v0 d0 p0) (hw : ∀ k ∈ d0.weights Tryd.prog 45, k ≤ reachBytes) :
    ∃ ao n cap A aA cA LA aM cM LM, v0 = .agg #[.slice ao n cap, .slice aA LA.length cA, .slice aM LM.length cM] ∧ SgsAt W ao n A ∧ DB W aA cA LA ∧ DB W aM cM LM := by
  obtain ⟨c0, c1, c2, y0, y1, y2, m, rfl, rfl, _, h1, h2, h3⟩ := Joins.open_agg3 Tryd.underlying45 (by kernel_rfl) Tryd.cells45 hv h0
  obtain ⟨ao, n, cap, A, rfl, hs, _⟩ := open_segs0 (x := y0) h1 (fun k hk => hw k (by simp [DataW.weights, DataW.weightsEach, Tryd.underlying45, hk]))
  obtain ⟨aA, cA, LA, rfl, hA, wA⟩ := open_bytes (x := y1) h2
  obtain ⟨aM, cM, LM, rfl, hM, wM⟩ := open_bytes (x := y2) h3
  have hlA : LA.length ≤ 140737488351232 := by
    by_cases hne : LA = []
    · subst hne; simp
    · obtain ⟨el, sp, e, hle⟩ := wA hne
      have := hw ((el.length + sp.length) * Tryd.prog.bytesOf 5) (by simp [DataW.weights, DataW.weightsEach, Tryd.underlying45, Tryd.underlying25, e])
      rw [Tryd.bytes5] at this
      simp only [reachBytes, Nat.mul_one] at this
      omega
  have hlM : LM.length ≤ 140737488351232 := by
    by_cases hne : LM = []
    · subst hne; simp
    · obtain ⟨el, sp, e, hle⟩ := wM hne
      have := hw ((el.length + sp.length) * Tryd.prog.bytesOf 5) (by simp [DataW.weights, DataW.weightsEach, Tryd.underlying45, Tryd.underlying25, e])
      rw [Tryd.bytes5] at this
      simp only [reachBytes, Nat.mul_one] at this
      omega
  exact ⟨ao, n, cap, A, aA, cA, LA, aM, cM, LM, rfl, hs, hA.db hlA, hM.db hlM⟩

set_option maxRecDepth 100000 in
theorem open_segs {H : Type} {enc : TypeId × Value → H} {W : World} {base : Nat} {v0 : Value} {d0 : DataW H} {p0 : List MemPlace} (hv : Value.okWide Tryd.prog W .any base 22 v0) (h0 : DataW.Trod enc Tryd.prog W 0 (fun _ => true) true 22 v0 d0 p0) (hw : ∀ k ∈ d0.weights Tryd.prog 22, k ≤ reachBytes) :
    ∃ ao n cap A, v0 = .slice ao n cap ∧ SgsAt W ao n A ∧ ∀ j, j < n → (A j).s.keep.length ≤ 140737488351232 := by
  obtain ⟨a0, len0, cap0, rfl⟩ := okWide_slice Tryd.underlying22 hv
  obtain ⟨fuel, hf⟩ := h0
  exact open_segs0 hf hw
end Go.Proofs.YtamonbkhpbdojaaDoor
