/- The table of rules, as the card lays it; arguments opened. -/
import Derived.Test.YtamonbkhpbdojaaDoorSv
import Derived.Test.YtamonbkhpbdojaaDoorTie
import Derived.Test.YtamonbkhpbdojaaDoorCards
import Derived.LaidMore
import Derived.Stop.Joined
import Derived.SevenTiedAt
import Derived.ProofKit
import Derived.OpenShut
import Derived.ChangeOld
import Derived.Lib.SmallJoins
import Derived.Deep.Slices
import Derived.Deep.Strs
import Derived.Test.YtamonbkhpbdojaaDoorSx
import Derived.SizedLaws
namespace Go.Proofs.YtamonbkhpbdojaaDoor
open Go.ChangeShapes Go.WideShapes Go.ChangeAt Go.RowKit

theorem Tryd.own : ownKnob Tryd.prog.godebug = none := by kernel_rfl
theorem Tryd.laidOut : laidOutB Tryd.prog = true := by kernel_rfl
theorem Tryd.cells3 : Tryd.prog.cellsOf 3 = 1 := by kernel_rfl
theorem Tryd.cells4 : Tryd.prog.cellsOf 4 = 1 := by kernel_rfl
theorem Tryd.cells5 : Tryd.prog.cellsOf 5 = 1 := by kernel_rfl
theorem Tryd.cells23 : Tryd.prog.cellsOf 23 = 1 := by kernel_rfl
theorem Tryd.cells24 : Tryd.prog.cellsOf 24 = 1 := by kernel_rfl
theorem Tryd.cells25 : Tryd.prog.cellsOf 25 = 1 := by kernel_rfl
theorem Tryd.cells27 : Tryd.prog.cellsOf 27 = 7 := by kernel_rfl
theorem Tryd.cells39 : Tryd.prog.cellsOf 39 = 2 := by kernel_rfl
theorem Tryd.cells59 : Tryd.prog.cellsOf 59 = 5 := by kernel_rfl

theorem addr_add (b off j : Nat) : (⟨b, off, none⟩ : Addr).add j = ⟨b, off + j, none⟩ := by
  unfold Addr.add; split <;> simp_all
theorem list2 {α : Type} : ∀ {l : List α}, l.length = 2 → ∃ a b, l = [a, b]
  | [a, b], _ => ⟨a, b, rfl⟩
theorem list5 {α : Type} : ∀ {l : List α}, l.length = 5 → ∃ a b c d e, l = [a, b, c, d, e]
  | [a, b, c, d, e], _ => ⟨a, b, c, d, e, rfl⟩
theorem list7 {α : Type} : ∀ {l : List α}, l.length = 7 → ∃ a b c d e f g, l = [a, b, c, d, e, f, g]
  | [a, b, c, d, e, f, g], _ => ⟨a, b, c, d, e, f, g, rfl⟩

theorem gRules : Tryd.prog.globalNamed "burin/segment.rules" = some 0 := by kernel_rfl
theorem tRules : (Tryd.prog.globals[0]?).map (·.type) = some 60 := by kernel_rfl
def ruleAgg (k : Nat) : DataW Unit := .agg [.lit (.int .i64 (rLo k : Int)), .lit (.int .i64 (rHi k : Int)), .lit (.bool (rRef k)), .lit (.bool (rStay k)), .lit (.int .i64 (rData k : Int))]
theorem laid_rules : (Rows.laid_burin_segment_rules : DataW Unit) = .agg [ruleAgg 0, ruleAgg 1, ruleAgg 2, ruleAgg 3, ruleAgg 4, ruleAgg 5, ruleAgg 6, ruleAgg 7] := rfl

set_option maxRecDepth 100000 in
theorem of_laid {W : World} (h : laidMetH Tryd.prog Rows.segmentOneRow.laid W) : RulesAt W := by
  rw [MakeChecks.laidMetH_plain _ _ _ (by kernel_rfl)] at h
  obtain ⟨ps, ⟨g0, t0, cs0, f0, p0, q0, hg0, ht0, hv0, hd0, _, _⟩, _, _⟩ := h
  obtain rfl := Option.some.inj (gRules.symm.trans hg0)
  obtain rfl := Option.some.inj (tRules.symm.trans ht0)
  obtain ⟨xs, m1, h1, h2, h3, h4, hel⟩ := DataW.trod_array Tryd.underlying60 hd0
  have hmap : xs.map (fun x => x.fst) = [ruleAgg 0, ruleAgg 1, ruleAgg 2, ruleAgg 3, ruleAgg 4, ruleAgg 5, ruleAgg 6, ruleAgg 7] := by
    have := congrArg Prod.fst h2
    rw [laid_rules] at this
    simp only [DataW.agg.injEq] at this
    exact this.symm
  have key : ∀ i, i < 8 → (cs0.toList.drop (i * 5)).take 5 = ruleV i := by
    intro i hi
    have h5 := hel i hi
    rw [Tryd.cells59, List.getElem?_eq_getElem (by omega)] at h5
    have hx : xs[i].1 = ruleAgg i := by
      have h6 := congrArg (fun l => l[i]?) hmap
      simp only [List.getElem?_map, List.getElem?_eq_getElem (show i < xs.length by omega), Option.map_some] at h6
      rcases (by omega : i = 0 ∨ i = 1 ∨ i = 2 ∨ i = 3 ∨ i = 4 ∨ i = 5 ∨ i = 6 ∨ i = 7) with rfl | rfl | rfl | rfl | rfl | rfl | rfl | rfl <;> exact Option.some.inj h6
    obtain ⟨ys, n, _, hx2, hl, hln, hf⟩ := DataW.trod_struct Tryd.underlying59 h5
    rw [Tryd.cells59] at hl
    generalize (cs0.toList.drop (i * 5)).take 5 = cs at *
    obtain ⟨a, b, c, d, e, rfl⟩ := list5 hl
    obtain ⟨y0, y1, y2, y3, y4, rfl⟩ := list5 (by simpa using hln)
    have e0 := hf 0 _ rfl
    have e1 := hf 1 _ rfl
    have e2 := hf 2 _ rfl
    have e3 := hf 3 _ rfl
    have e4 := hf 4 _ rfl
    simp [Tryd.cells3, Tryd.cells4] at e0 e1 e2 e3 e4
    obtain ⟨k0, f0, g0, _⟩ := DataW.trod_int Tryd.underlying3 e0
    obtain ⟨k1, f1, g1, _⟩ := DataW.trod_int Tryd.underlying3 e1
    obtain ⟨k2, f2, g2⟩ := DataW.trod_bool Tryd.underlying4 e2
    obtain ⟨k3, f3, g3⟩ := DataW.trod_bool Tryd.underlying4 e3
    obtain ⟨k4, f4, g4, _⟩ := DataW.trod_int Tryd.underlying3 e4
    rw [hx2] at hx
    rw [g0, g1, g2, g3, g4] at hx
    simp [ruleAgg] at hx f0 f1 f2 f3 f4
    obtain ⟨q0, q1, q2, q3, q4⟩ := hx
    unfold ruleV
    rw [f0, f1, f2, f3, f4, q0, q1, q2, q3, q4]
  have hlen : cs0.toList.length = 40 := by rw [h3]; kernel_rfl
  have chunk : ∀ k, cs0.toList.drop k = (cs0.toList.drop k).take 5 ++ cs0.toList.drop (k + 5) := by
    intro k
    rw [← List.drop_drop]
    exact (List.take_append_drop 5 _).symm
  have hall : cs0.toList = rulesArr.toList := by
    have c0 : cs0.toList = (cs0.toList.drop 0).take 5 ++ cs0.toList.drop 5 := chunk 0
    have c1 : cs0.toList.drop 5 = (cs0.toList.drop 5).take 5 ++ cs0.toList.drop 10 := chunk 5
    have c2 : cs0.toList.drop 10 = (cs0.toList.drop 10).take 5 ++ cs0.toList.drop 15 := chunk 10
    have c3 : cs0.toList.drop 15 = (cs0.toList.drop 15).take 5 ++ cs0.toList.drop 20 := chunk 15
    have c4 : cs0.toList.drop 20 = (cs0.toList.drop 20).take 5 ++ cs0.toList.drop 25 := chunk 20
    have c5 : cs0.toList.drop 25 = (cs0.toList.drop 25).take 5 ++ cs0.toList.drop 30 := chunk 25
    have c6 : cs0.toList.drop 30 = (cs0.toList.drop 30).take 5 ++ cs0.toList.drop 35 := chunk 30
    have c7 : cs0.toList.drop 35 = (cs0.toList.drop 35).take 5 ++ cs0.toList.drop 40 := chunk 35
    have k0 := key 0 (by omega)
    have k1 := key 1 (by omega)
    have k2 := key 2 (by omega)
    have k3 := key 3 (by omega)
    have k4 := key 4 (by omega)
    have k5 := key 5 (by omega)
    have k6 := key 6 (by omega)
    have k7 := key 7 (by omega)
    simp only [Nat.zero_mul, Nat.one_mul, Nat.reduceMul] at k0 k1 k2 k3 k4 k5 k6 k7
    rw [k0] at c0
    rw [k1] at c1
    rw [k2] at c2
    rw [k3] at c3
    rw [k4] at c4
    rw [k5] at c5
    rw [k6] at c6
    rw [k7, List.drop_eq_nil_of_le (by omega : cs0.toList.length ≤ 40)] at c7
    rw [c0, c1, c2, c3, c4, c5, c6, c7]
    rfl
  have hcs : cs0 = rulesArr := Array.toList_inj.1 hall
  simp only [World.var?, hg0, Option.bind_some] at hv0
  split at hv0
  · rename_i cs ty ex hb
    cases hv0
    exact ⟨_, _, by rw [← hcs]; exact hb⟩
  · cases hv0

set_option maxRecDepth 100000 in
theorem open_bytes {H : Type} {enc : TypeId × Value → H} {W : World} {fuel : Nat} {v : Value} {x : DataW H × List MemPlace} (h : DataW.trod enc Tryd.prog W 0 (fun _ => true) true fuel 25 [v] = some x) :
    ∃ (bo : Option Addr) (bcap : Nat) (l : List Nat), v = .slice bo l.length bcap ∧ DB0 W bo bcap l ∧ (l ≠ [] → ∃ elems spare, x.1 = .slice elems spare ∧ l.length ≤ elems.length + spare.length) := by
  rcases open_ints Tryd.underlying25 Tryd.underlying5 (by kernel_rfl) h with ⟨hcs, _⟩ | ⟨a, len, c, zs, hcs, _, hl, hm, hz, hx, hcell, hwz⟩
  · simp at hcs
    subst hcs
    exact ⟨none, 0, [], rfl, ⟨fun hn => absurd rfl hn, (fun y hy => by cases hy), (fun _ => rfl), Nat.le_refl _, (by unfold maxLen; omega), fun ad e => by cases e⟩, fun hn => absurd rfl hn⟩
  · simp at hcs
    have hz' : zs.length = c := by simpa using hz
    have hb : ∀ z ∈ zs, 0 ≤ z ∧ z ≤ 255 := fun z hzm => bounds_u8 (hwz _ hzm)
    have hlen : ((zs.take len).map Int.toNat).length = len := by simp; omega
    subst hcs
    have hsp : 0 < c → ∃ b off, a = ⟨b, off, none⟩ := fun hc => by
      obtain ⟨b, off, spot⟩ := a
      have hspot : spot = none := by
        have := World.cell?_spot (hcell 0 (by omega))
        simpa [Addr.add] using this
      subst hspot
      exact ⟨b, off, rfl⟩
    refine ⟨some a, c, (zs.take len).map Int.toNat, by rw [hlen], ⟨fun hne => ?_, ?_, (fun e => by cases e), by rw [hlen]; exact hl, hm, fun ad e hc => by cases e; exact hsp hc⟩, fun _ => ⟨_, _, by rw [hx], by simp [lits]⟩⟩
    · have hpos : 0 < len := by rw [← hlen]; exact List.length_pos_iff.2 hne
      obtain ⟨b, off, rfl⟩ := hsp (by omega)
      refine ⟨b, off, rfl, fun j hj => ?_⟩
      rw [hlen] at hj
      have h1 := hcell j (by omega)
      rw [addr_add] at h1
      rw [h1]
      have hjz : j < zs.length := by omega
      have hmem : zs[j] ∈ zs := List.getElem_mem _
      have := hb _ hmem
      simp [hj, hjz]
      omega
    · intro y hy
      obtain ⟨z, hz1, rfl⟩ := List.mem_map.1 hy
      have := hb z (List.mem_of_mem_take hz1)
      omega

set_option maxRecDepth 100000 in
theorem open_places0 {H : Type} {enc : TypeId × Value → H} {W : World} {fuel : Nat} {v : Value} {x : DataW H × List MemPlace} (h : DataW.trod enc Tryd.prog W 0 (fun _ => true) true fuel 37 [v] = some x) :
    ∃ ao n cap A, v = .slice ao n cap ∧ PlcsAt W ao n A := by
  rcases Deep.open_slice Tryd.underlying37 h with ⟨hcs, _⟩ | ⟨a, len, cap, m, f, D, Pl, hcs, _, hlc, hmx, hm, _, hel⟩
  · simp at hcs
    exact ⟨none, 0, 0, fun _ => ⟨none, 0, [], 0⟩, hcs, by omega, by omega, by omega⟩
  · simp at hcs
    have hlm : len ≤ m := by rw [hm]; split <;> omega
    have hex : ∀ i, i < len → ∃ y : Plc, (W.cell? ((a.add (i * 2)).add 0) = some (.slice y.ao y.l.length y.cap) ∧ W.cell? ((a.add (i * 2)).add 1) = some (.int .i64 y.x)) ∧ DB0 W y.ao y.cap y.l := by
      intro i hi
      obtain ⟨cs', hc, ht⟩ := hel i (by omega)
      obtain ⟨ys, n, _, _, hl, hln, hf⟩ := DataW.trod_struct Tryd.underlying39 ht
      rw [Tryd.cells39] at hl hc
      obtain ⟨c0, c1, rfl⟩ := list2 hl
      obtain ⟨y0, y1, rfl⟩ := list2 (by simpa using hln)
      have t0 := hf 0 _ rfl
      have t1 := hf 1 _ rfl
      simp [Tryd.cells3, Tryd.cells25] at t0 t1
      obtain ⟨bo, bcap, B, e0, s0, _⟩ := open_bytes (x := y0) t0
      obtain ⟨k1, e1, _, _⟩ := DataW.trod_int (x := y1) Tryd.underlying3 t1
      simp at e1
      subst e0 e1
      have hcc := (World.cells?_some hc).2.2
      exact ⟨⟨bo, bcap, B, k1⟩, ⟨hcc 0 (by omega), hcc 1 (by omega)⟩, s0⟩
    have : Nonempty Plc := ⟨⟨none, 0, [], 0⟩⟩
    have hinh : Inhabited Plc := ⟨⟨none, 0, [], 0⟩⟩
    obtain ⟨f, hf⟩ := Deep.choose_lt hex
    refine ⟨some a, len, cap, f, hcs, by unfold maxLen at hmx; omega, fun hn => ?_, fun j hj => (hf j hj).2⟩
    obtain ⟨b, off, spot⟩ := a
    have hspot : spot = none := by
      have := World.cell?_spot (hf 0 hn).1.1
      simpa [Addr.add] using this
    subst hspot
    refine ⟨b, off, rfl, fun j hj => ?_⟩
    have := (hf j hj).1
    simp only [addr_add] at this
    exact this

set_option maxRecDepth 100000 in
theorem open_places {H : Type} {enc : TypeId × Value → H} {W : World} {base : Nat} {v0 : Value} {d0 : DataW H} {p0 : List MemPlace} (hv : Value.okWide Tryd.prog W .any base 37 v0) (h0 : DataW.Trod enc Tryd.prog W 0 (fun _ => true) true 37 v0 d0 p0) :
    ∃ ao n cap A, v0 = .slice ao n cap ∧ PlcsAt W ao n A := by
  obtain ⟨a0, len0, cap0, rfl⟩ := okWide_slice Tryd.underlying37 hv
  obtain ⟨fuel, hf⟩ := h0
  exact open_places0 hf
end Go.Proofs.YtamonbkhpbdojaaDoor

/- Arguments opened: segments, a Round. -/
namespace Go.Proofs.YtamonbkhpbdojaaDoor
open Go.ChangeShapes Go.WideShapes Go.ChangeAt Go.RowKit

theorem Tryd.cells22 : Tryd.prog.cellsOf 22 = 1 := by kernel_rfl
theorem Tryd.cells45 : Tryd.prog.cellsOf 45 = 3 := by kernel_rfl
theorem Tryd.bytes5 : Tryd.prog.bytesOf 5 = 1 := by kernel_rfl
theorem Tryd.bytes4 : Tryd.prog.bytesOf 4 = 1 := by kernel_rfl
theorem list3 {α : Type} : ∀ {l : List α}, l.length = 3 → ∃ a b c, l = [a, b, c]
  | [a, b, c], _ => ⟨a, b, c, rfl⟩

set_option maxRecDepth 100000 in
theorem open_refs {H : Type} {enc : TypeId × Value → H} {W : World} {fuel : Nat} {v : Value} {x : DataW H × List MemPlace} (h : DataW.trod enc Tryd.prog W 0 (fun _ => true) true fuel 23 [v] = some x) :
    ∃ l : List Int, RowS W v (iCells l) := by
  rcases open_ints Tryd.underlying23 Tryd.underlying3 (by kernel_rfl) h with ⟨hcs, _⟩ | ⟨a, len, c, zs, hcs, _, hl, hm, hz, hx, hcell, hwz⟩
  · simp at hcs
    subst hcs
    exact ⟨[], none, 0, rfl, by simp [iCells], fun hn => absurd rfl hn⟩
  · simp at hcs
    have hz' : zs.length = c := by simpa using hz
    have hlen : (zs.take len).length = len := by simp; omega
    subst hcs
    unfold maxLen at hm
    refine ⟨zs.take len, some a, c, by rw [length_iCells, hlen], by rw [length_iCells, hlen]; omega, fun hne => ?_⟩
    have hpos : 0 < len := by
      rw [← hlen, ← length_iCells]; exact List.length_pos_iff.2 hne
    obtain ⟨b, off, spot⟩ := a
    have hspot : spot = none := by
      have := World.cell?_spot (hcell 0 (by omega))
      simpa [Addr.add] using this
    subst hspot
    refine ⟨b, off, rfl, fun j hj => ?_⟩
    rw [length_iCells, hlen] at hj
    have h1 := hcell j (by omega)
    rw [addr_add] at h1
    rw [h1, iCells_get _ j (by rw [hlen]; exact hj)]
    have hjz : j < zs.length := by omega
    simp [hj, hjz]

set_option maxRecDepth 100000 in
theorem open_flags {H : Type} {enc : TypeId × Value → H} {W : World} {fuel : Nat} {v : Value} {x : DataW H × List MemPlace} (h : DataW.trod enc Tryd.prog W 0 (fun _ => true) true fuel 24 [v] = some x) :
    ∃ l : List Bool, RowS W v (boolCells l) ∧ (l ≠ [] → ∃ elems spare, x.1 = .slice elems spare ∧ l.length ≤ elems.length + spare.length) := by
  rcases Deep.open_slice Tryd.underlying24 h with ⟨hcs, _⟩ | ⟨a, len, cap, m, f, D, Pl, hcs, _, hlc, hmx, hm, hx, hel⟩
  · simp at hcs
    subst hcs
    exact ⟨[], ⟨none, 0, rfl, by simp [boolCells], fun hn => absurd rfl hn⟩, fun hn => absurd rfl hn⟩
  · simp at hcs
    subst hcs
    have hlm : len ≤ m := by rw [hm]; split <;> omega
    have hex : ∀ i, i < len → ∃ y : Bool, W.cell? ((a.add (i * 1)).add 0) = some (.bool y) := by
      intro i hi
      obtain ⟨cs', hc, ht⟩ := hel i (by omega)
      obtain ⟨k1, e1, _⟩ := DataW.trod_bool Tryd.underlying4 ht
      rw [Tryd.cells4] at hc
      have hcc := (World.cells?_some hc).2.2
      have := hcc 0 (by omega)
      subst e1
      exact ⟨k1, this⟩
    obtain ⟨f, hf⟩ := Deep.choose_lt hex
    unfold maxLen at hmx
    refine ⟨(List.range len).map f, ⟨some a, cap, by rw [length_boolCells]; simp, by rw [length_boolCells]; simp; omega, fun hne => ?_⟩, fun _ => ⟨_, _, by rw [hx], by simp⟩⟩
    have hpos : 0 < len := by
      have := List.length_pos_iff.2 hne
      rw [length_boolCells] at this
      simpa using this
    obtain ⟨b, off, spot⟩ := a
    have hspot : spot = none := by
      have := World.cell?_spot (hf 0 hpos)
      simpa [Addr.add] using this
    subst hspot
    refine ⟨b, off, rfl, fun j hj => ?_⟩
    rw [length_boolCells] at hj
    simp at hj
    have := hf j hj
    simp only [addr_add, Nat.mul_one, Nat.add_zero] at this
    rw [this, boolCells_get _ j (by simpa using hj)]
    simp [hj]

theorem DB0.row {w : World} {ao : Option Addr} {cap : Nat} {l : List Nat} (h : DB0 w ao cap l) : RowS w (.slice ao l.length cap) (byteCells l) := by
  refine ⟨ao, cap, by rw [length_byteCells], ?_, fun hx => ?_⟩
  · have h1 := h.cp
    have h2 := h.cl
    unfold maxLen at h2
    rw [length_byteCells]; omega
  · obtain ⟨b, off, e, hc⟩ := h.seen (fun e => hx (by rw [e]; rfl))
    refine ⟨b, off, e, fun j hj => ?_⟩
    rw [length_byteCells] at hj
    rw [hc j hj, byteCells_get, List.getElem?_eq_getElem hj]; rfl

theorem weightsAll_mem {H : Type} {P : Program} {e : TypeId} : ∀ {l : List (DataW H)} {d : DataW H}, d ∈ l → ∀ n ∈ d.weights P e, n ∈ DataW.weightsAll P e l
  | d0 :: l, d, hd, n, hn => by
    simp only [DataW.weightsAll, List.mem_append]
    rcases List.mem_cons.1 hd with rfl | hd
    · exact Or.inl hn
    · exact Or.inr (weightsAll_mem hd n hn)

set_option maxRecDepth 100000 in
theorem seg_elem {H : Type} {enc : TypeId × Value → H} {W : World} {n : Nat} {cs : List Value} {x : DataW H × List MemPlace} (h : DataW.trod enc Tryd.prog W 0 (fun _ => true) true n 27 cs = some x) (hw : ∀ k ∈ x.1.weights Tryd.prog 27, k ≤ reachBytes) :
    ∃ r : SgR, cs = sgC r.s r.vr r.vk r.vd ∧ SgAt W r.s r.vr r.vk r.vd ∧ r.s.keep.length ≤ 140737488351232 := by
  obtain ⟨ys, m, _, hx, hl, hln, hf⟩ := DataW.trod_struct Tryd.underlying27 h
  rw [Tryd.cells27] at hl
  obtain ⟨c0, c1, c2, c3, c4, c5, c6, rfl⟩ := list7 hl
  obtain ⟨y0, y1, y2, y3, y4, y5, y6, rfl⟩ := list7 (by simpa using hln)
  have t0 := hf 0 _ rfl
  have t1 := hf 1 _ rfl
  have t2 := hf 2 _ rfl
  have t3 := hf 3 _ rfl
  have t4 := hf 4 _ rfl
  have t5 := hf 5 _ rfl
  have t6 := hf 6 _ rfl
  simp [Tryd.cells3, Tryd.cells4, Tryd.cells23, Tryd.cells24, Tryd.cells25] at t0 t1 t2 t3 t4 t5 t6
  obtain ⟨k0, e0, _, _⟩ := DataW.trod_int (x := y0) Tryd.underlying3 t0
  obtain ⟨k1, e1, _, _⟩ := DataW.trod_int (x := y1) Tryd.underlying3 t1
  obtain ⟨k2, e2, _, _⟩ := DataW.trod_int (x := y2) Tryd.underlying3 t2
  obtain ⟨R, h3⟩ := open_refs (x := y3) t3
  obtain ⟨K, h4, w4⟩ := open_flags (x := y4) t4
  obtain ⟨k5, e5, _⟩ := DataW.trod_bool (x := y5) Tryd.underlying4 t5
  obtain ⟨bo, bcap, B, e6, h6, _⟩ := open_bytes (x := y6) t6
  simp at e0 e1 e2 e5
  subst e0 e1 e2 e5 e6
  refine ⟨⟨⟨k0, k1, k2, R, K, k5, B⟩, c3, c4, _⟩, rfl, ⟨h3, h4, h6.row⟩, ?_⟩
  by_cases hne : K = []
  · subst hne; simp
  · obtain ⟨el, sp, e, hle⟩ := w4 hne
    have := hw ((el.length + sp.length) * Tryd.prog.bytesOf 4) (by rw [hx]; simp [DataW.weights, DataW.weightsEach, Tryd.underlying27, Tryd.underlying24, e])
    rw [Tryd.bytes4] at this
    simp only [reachBytes, Nat.mul_one] at this
    show K.length ≤ _
    omega

set_option maxRecDepth 100000 in
theorem open_segs0 {H : Type} {enc : TypeId × Value → H} {W : World} {fuel : Nat} {v : Value} {x : DataW H × List MemPlace} (h : DataW.trod enc Tryd.prog W 0 (fun _ => true) true fuel 22 [v] = some x) (hw : ∀ k ∈ x.1.weights Tryd.prog 22, k ≤ reachBytes) :
    ∃ ao n cap A, v = .slice ao n cap ∧ SgsAt W ao n A ∧ ∀ j, j < n → (A j).s.keep.length ≤ 140737488351232 := by
  rcases Deep.open_slice Tryd.underlying22 h with ⟨hcs, _⟩ | ⟨a, len, cap, m, f, D, Pl, hcs, _, hlc, hmx, hm, hx, hel⟩
  · simp at hcs
    exact ⟨none, 0, 0, fun _ => ⟨⟨0, 0, 0, [], [], false, []⟩, .slice none 0 0, .slice none 0 0, .slice none 0 0⟩, hcs, ⟨by omega, by omega, by omega⟩, by omega⟩
  · simp at hcs
    have hlm : len ≤ m := by rw [hm]; split <;> omega
    have hex : ∀ i, i < len → ∃ y : SgR, (W.cell? ((a.add (i * 7)).add 0) = some (.int .i64 y.s.num) ∧ W.cell? ((a.add (i * 7)).add 1) = some (.int .i64 y.s.kind) ∧ W.cell? ((a.add (i * 7)).add 2) = some (.int .i64 y.s.page) ∧ W.cell? ((a.add (i * 7)).add 3) = some y.vr ∧ W.cell? ((a.add (i * 7)).add 4) = some y.vk ∧ W.cell? ((a.add (i * 7)).add 5) = some (.bool y.s.stay) ∧ W.cell? ((a.add (i * 7)).add 6) = some y.vd) ∧ SgAt W y.s y.vr y.vk y.vd ∧ y.s.keep.length ≤ 140737488351232 := by
      intro i hi
      obtain ⟨cs', hc, ht⟩ := hel i (by omega)
      obtain ⟨rk, rfl, b0, b1⟩ := seg_elem ht (fun k hk => hw k (by
        rw [hx]
        simp only [DataW.weights, Tryd.underlying22, List.mem_cons, List.mem_append]
        exact Or.inr (Or.inl (weightsAll_mem (List.mem_map.2 ⟨i, List.mem_range.2 hi, rfl⟩) k hk))))
      rw [Tryd.cells27] at hc
      have hcc := (World.cells?_some hc).2.2
      exact ⟨rk, ⟨hcc 0 (by omega), hcc 1 (by omega), hcc 2 (by omega), hcc 3 (by omega), hcc 4 (by omega), hcc 5 (by omega), hcc 6 (by omega)⟩, b0, b1⟩
    have hinh : Inhabited SgR := ⟨⟨⟨0, 0, 0, [], [], false, []⟩, .slice none 0 0, .slice none 0 0, .slice none 0 0⟩⟩
    have : Nonempty SgR := ⟨default⟩
    obtain ⟨f, hf⟩ := Deep.choose_lt hex
    refine ⟨some a, len, cap, f, hcs, ⟨by unfold maxLen at hmx; omega, fun hn => ?_, fun j hj => (hf j hj).2.1⟩, fun j hj => (hf j hj).2.2⟩
    obtain ⟨b, off, spot⟩ := a
    have hspot : spot = none := by
      have := World.cell?_spot (hf 0 hn).1.1
      simpa [Addr.add] using this
    subst hspot
    refine ⟨b, off, rfl, fun j hj => ?_⟩
    have := (hf j hj).1
    simp only [addr_add] at this
    exact this

set_option maxRecDepth 100000 in
theorem open_round {H : Type} {enc : TypeId × Value → H} {W : World} {base : Nat} {v0 : Value} {d0 : DataW H} {p0 : List MemPlace} (hv : Value.okWide Tryd.prog W .any base 45 v0) (h0 : DataW.Trod enc Tryd.prog W 0 (fun _ => true) true 45 v0 d0 p0) (hw : ∀ k ∈ d0.weights Tryd.prog 45, k ≤ reachBytes) :
    ∃ ao n cap A aA cA LA aM cM LM, v0 = .agg #[.slice ao n cap, .slice aA LA.length cA, .slice aM LM.length cM] ∧ SgsAt W ao n A ∧ DB W aA cA LA ∧ DB W aM cM LM := by
  obtain ⟨c0, c1, c2, y0, y1, y2, m, rfl, rfl, _, h1, h2, h3⟩ := Joins.open_agg3 Tryd.underlying45 (by kernel_rfl) Tryd.cells45 hv h0
  obtain ⟨ao, n, cap, A, rfl, hs, _⟩ := open_segs0 (x := y0) h1 (fun k hk => hw k (by simp [DataW.weights, DataW.weightsEach, Tryd.underlying45, hk]))
  obtain ⟨aA, cA, LA, rfl, hA, wA⟩ := open_bytes (x := y1) h2
  obtain ⟨aM, cM, LM, rfl, hM, wM⟩ := open_bytes (x := y2) h3
  have hlA : LA.length ≤ 140737488351232 := by
    by_cases hne : LA = []
    · subst hne; simp
    · obtain ⟨el, sp, e, hle⟩ := wA hne
      have := hw ((el.length + sp.length) * Tryd.prog.bytesOf 5) (by simp [DataW.weights, DataW.weightsEach, Tryd.underlying45, Tryd.underlying25, e])
      rw [Tryd.bytes5] at this
      simp only [reachBytes, Nat.mul_one] at this
      omega
  have hlM : LM.length ≤ 140737488351232 := by
    by_cases hne : LM = []
    · subst hne; simp
    · obtain ⟨el, sp, e, hle⟩ := wM hne
      have := hw ((el.length + sp.length) * Tryd.prog.bytesOf 5) (by simp [DataW.weights, DataW.weightsEach, Tryd.underlying45, Tryd.underlying25, e])
      rw [Tryd.bytes5] at this
      simp only [reachBytes, Nat.mul_one] at this
      omega
  exact ⟨ao, n, cap, A, aA, cA, LA, aM, cM, LM, rfl, hs, hA.db hlA, hM.db hlM⟩

set_option maxRecDepth 100000 in
theorem open_segs {H : Type} {enc : TypeId × Value → H} {W : World} {base : Nat} {v0 : Value} {d0 : DataW H} {p0 : List MemPlace} (hv : Value.okWide Tryd.prog W .any base 22 v0) (h0 : DataW.Trod enc Tryd.prog W 0 (fun _ => true) true 22 v0 d0 p0) (hw : ∀ k ∈ d0.weights Tryd.prog 22, k ≤ reachBytes) :
    ∃ ao n cap A, v0 = .slice ao n cap ∧ SgsAt W ao n A ∧ ∀ j, j < n → (A j).s.keep.length ≤ 140737488351232 := by
  obtain ⟨a0, len0, cap0, rfl⟩ := okWide_slice Tryd.underlying22 hv
  obtain ⟨fuel, hf⟩ := h0
  exact open_segs0 hf hw
end Go.Proofs.YtamonbkhpbdojaaDoor

/- Arguments opened: segments, with the room behind them. -/
namespace Go.Proofs.YtamonbkhpbdojaaDoor
open Go.ChangeShapes Go.WideShapes Go.ChangeAt Go.RowKit

set_option maxRecDepth 100000 in
theorem segs_cap {H : Type} {enc : TypeId × Value → H} {W : World} {fuel n cap : Nat} {ao : Option Addr} {x : DataW H × List MemPlace} (h : DataW.trod enc Tryd.prog W 0 (fun _ => true) true fuel 22 [.slice ao n cap] = some x) : n ≤ cap := by
  rcases Deep.open_slice Tryd.underlying22 h with ⟨hcs, _⟩ | ⟨a, len, c, m, f, D, Pl, hcs, _, hlc, _⟩
  · simp at hcs; omega
  · simp at hcs; omega
set_option maxRecDepth 100000 in
theorem open_segsC {H : Type} {enc : TypeId × Value → H} {W : World} {base : Nat} {v0 : Value} {d0 : DataW H} {p0 : List MemPlace} (hv : Value.okWide Tryd.prog W .any base 22 v0) (h0 : DataW.Trod enc Tryd.prog W 0 (fun _ => true) true 22 v0 d0 p0) (hw : ∀ k ∈ d0.weights Tryd.prog 22, k ≤ reachBytes) :
    ∃ ao n cap A, v0 = .slice ao n cap ∧ SgsAt W ao n A ∧ (∀ j, j < n → (A j).s.keep.length ≤ 140737488351232) ∧ n ≤ cap := by
  obtain ⟨ao, n, cap, A, rfl, h1, h2⟩ := open_segs hv h0 hw
  obtain ⟨fuel, hf⟩ := h0
  exact ⟨ao, n, cap, A, rfl, h1, h2, segs_cap hf⟩
end Go.Proofs.YtamonbkhpbdojaaDoor
