/- Bytes that a string was turned into: a row with a mark behind its last cell; what is appended to it. -/
import Derived.Laws.AppendOwn
import Derived.Lib.FrozenHead
import Derived.Test.YtpfajkkjnobdlaaDoorRc
namespace Go.Proofs.YtpfajkkjnobdlaaDoor
set_option maxRecDepth 100000
open Go.RowKit

/-- A row of bytes, from its head; nothing of it is frozen. -/
structure RowM (w : World) (g cap : Nat) (l : List Nat) : Prop where
  ex : ∃ cur fz, w.heap[g]? = some (.cells cur 5 fz) ∧ (fz.2 = 0 ∨ cap ≤ fz.1) ∧ cur.size = cap ∧ cur.toList.take l.length = byteCells l
  le : l.length ≤ cap
  mx : cap ≤ maxLen

theorem RowM.lt {w : World} {g cap : Nat} {l : List Nat} (h : RowM w g cap l) : g < w.heap.size := by
  obtain ⟨_, _, h1, _⟩ := h.ex
  exact lt_of_block h1
theorem RowM.kept {S : Nat → Prop} {w w' : World} {g cap : Nat} {l : List Nat} (h : RowM w g cap l) (f : Fr S w w') (hs : ¬ S g) : RowM w' g cap l := by
  obtain ⟨cur, fz, h1, h2, h3, h4⟩ := h.ex
  exact ⟨⟨cur, fz, by rw [f.block g h.lt hs]; exact h1, h2, h3, h4⟩, h.le, h.mx⟩
theorem RowM.cell {w : World} {g cap : Nat} {l : List Nat} (h : RowM w g cap l) (j : Nat) (hj : j < l.length) : w.cell? ⟨g, j, none⟩ = some (.int .u8 (l[j]?.getD 0 : Nat)) := by
  obtain ⟨cur, fz, h1, h2, h3, h4⟩ := h.ex
  have h5 := congrArg (fun q => q[j]?) h4
  simp only [List.getElem?_take, hj, if_true] at h5
  rw [byteCells_get, List.getElem?_eq_getElem hj] at h5
  rw [List.getElem?_eq_getElem hj]
  simp only [World.cell?, h1]
  rw [← Array.getElem?_toList, h5]
  rfl
theorem RowM.seen {w : World} {g cap : Nat} {l : List Nat} (h : RowM w g cap l) (hl : l.length ≤ 140737488355328) : SeenAt w (.slice (some ⟨g, 0, none⟩) l.length cap) l :=
  ⟨_, _, rfl, hl, fun _ => ⟨g, 0, rfl, fun j hj => by rw [Nat.zero_add]; exact h.cell j hj⟩⟩
theorem RowM.of_own {w : World} {g cap : Nat} {l : List Nat} (h : w.ownsRow 0 5 1 (.slice (some ⟨g, 0, none⟩) l.length cap) l.length (byteCells l)) : RowM w g cap l := by
  rcases h.2 with ⟨e, _⟩ | ⟨g', cap', cur, e, _, hg, hc, hm, hcs, ht⟩
  · cases e
  · simp only [Value.slice.injEq, Option.some.injEq, Addr.mk.injEq] at e
    obtain ⟨⟨rfl, _⟩, _, rfl⟩ := e
    exact ⟨⟨cur, (0, 0), hg, Or.inl rfl, by simpa using hcs, by simpa using ht⟩, hc, hm⟩

theorem storeCells_m (P : Program) (g o : Nat) (t : TypeId) (fz : Nat × Nat) : ∀ (vs : List Value) (i : Nat) (cur : Array Value) (w : World), w.heap[g]? = some (.cells cur t fz) → (fz.2 = 0 ∨ cur.size ≤ fz.1) → o + i + vs.length ≤ cur.size → (∀ v ∈ vs, v.oneCell' = true) →
    (storeCells ⟨g, o, none⟩ vs i).run P w = .ok () (w.setRow g (cur.toList.take (o + i) ++ vs ++ cur.toList.drop (o + i + vs.length)).toArray)
  | [], i, cur, w, hg, _, _, _ => by
    simp only [storeCells, List.append_nil, List.length_nil, Nat.add_zero, List.take_append_drop, Array.toArray_toList]
    rw [setRow_self w g cur t fz hg]
    rfl
  | v :: rest, i, cur, w, hg, hfz, hl, h1 => by
    have hi : o + i < cur.size := by simp at hl; omega
    have hadd : (⟨g, o, none⟩ : Addr).add i = ⟨g, o + i, none⟩ := by unfold Addr.add; split <;> simp_all
    have hcell : w.cell? ⟨g, o + i, none⟩ = some cur[o + i] := by simp [World.cell?, hg, hi]
    have hfro : w.frozen? ⟨g, o + i, none⟩ = false := by
      obtain ⟨lo, hi'⟩ := fz
      simp only [World.frozen?, hg, Bool.and_eq_false_iff, decide_eq_false_iff_not]
      simp only at hfz
      omega
    have hst : (store ((⟨g, o, none⟩ : Addr).add i) v).run P w = .ok () (w.setRow g (cur.setIfInBounds (o + i) v)) := by
      rw [hadd, run_store P w _ v _ (h1 v (by simp)), hcell]
      simp [hfro, setCell_eq_setRow w g (o + i) cur t fz v hg]
    have ih := storeCells_m P g o t fz rest (i + 1) (cur.setIfInBounds (o + i) v) (w.setRow g (cur.setIfInBounds (o + i) v)) (setRow_heap w g cur _ t _ hg) (by simpa using hfz) (by simp at hl ⊢; omega) (fun x hx => h1 x (by simp [hx]))
    simp only [storeCells, Sem.run_bind, hst, Result.andThen_ok, ih, setRow_setRow]
    congr 3
    have e := list_seg_step cur.toList (o + i) v rest (by simp at hl ⊢; omega)
    simpa [Array.toList_setIfInBounds, Nat.add_assoc] using e

theorem run_append_m {P : Program} (w : World) (t ty : TypeId) (i : TypeInfo) (ht : P.underlying t = some (.slice 5)) (hi : P.info? 5 = some i) (hz : i.zero = some (.int .u8 0)) (hsize : i.size = 1) (hby : i.bytes = 1)
    (g cap : Nat) (l : List Nat) (hown : RowM w g cap l) (a : Addr) (m c : Nat) (news : List Nat) (hl : news.length = m) (hm : 0 < m) (hnews : ∀ j u, (byteCells news)[j]? = some u → w.cell? (a.add j) = some u) (hbytes : l.length + m ≤ 140737488355328) :
    ∃ g' cap' w', (Builtin.append_ #[t, t] ty #[.slice (some ⟨g, 0, none⟩) l.length cap, .slice (some a) m c]).run P w = .ok (.slice (some ⟨g', 0, none⟩) (l.length + m) cap') w' ∧ RowM w' g' cap' (l ++ news) ∧ Fr (fun k => k = g) w w' ∧ (g' = g ∨ w.heap.size ≤ g') := by
  have hsmall : l.length + m ≤ 9223372036854775807 := by omega
  have hnl : (byteCells news).length = m * i.size := by rw [length_byteCells, hl, hsize]; omega
  have hlen : (l ++ news).length = l.length + m := by rw [List.length_append, hl]
  obtain ⟨cur, fz, hg, hfz, hcs, htake⟩ := hown.ex
  have h1 := byteCells_one news
  by_cases hroom : l.length + m ≤ cap
  · have hf := run_firstCells_some (P := P) w i.size m a m c (byteCells news) hnl hnews
    have hst := storeCells_m P g l.length 5 fz (byteCells news) 0 cur w hg (by rw [hcs]; exact hfz) (by rw [length_byteCells, hl]; omega) h1
    simp only [Nat.add_zero] at hst
    refine ⟨g, cap, w.setRow g (cur.toList.take l.length ++ byteCells news ++ cur.toList.drop (l.length + (byteCells news).length)).toArray, by rw [hsize] at hf; simp only [Builtin.append_, sizeOf, typeInfo, Builtin.lenOf]; simp [hroom, hf, Addr.add_lit, hsize, hst, run_underlying ht, hi], ⟨⟨_, fz, setRow_heap w g cur _ 5 _ hg, hfz, ?_, ?_⟩, by rw [hlen]; exact hroom, hown.mx⟩, ⟨rfl, rfl, rfl, by simp, fun k _ hk => setRow_other w g k _ (fun e => hk e)⟩, Or.inl rfl⟩
    · simp only [List.size_toArray, List.length_append, List.length_take, List.length_drop, Array.length_toList, length_byteCells]
      omega
    · rw [htake, ← byteCells_append, hlen]
      have : (byteCells (l ++ news)).length = l.length + m := by rw [length_byteCells, hlen]
      rw [← this]
      exact List.take_left
  · have holds : ∀ j u, (byteCells l)[j]? = some u → w.cell? ((⟨g, 0, none⟩ : Addr).add j) = some u := by
      intro j u hu
      have hj : j < l.length := by
        rcases Nat.lt_or_ge j l.length with h | h
        · exact h
        · rw [List.getElem?_eq_none (by rw [length_byteCells]; exact h)] at hu; cases hu
      rw [show (⟨g, 0, none⟩ : Addr).add j = ⟨g, j, none⟩ from by unfold Addr.add; split <;> simp_all, hown.cell j hj, ← hu, byteCells_get, List.getElem?_eq_getElem hj]
      rfl
    have hr := run_append_grow (P := P) w t ty 5 i (.int .u8 0) ht hi hz ⟨g, 0, none⟩ l.length cap (byteCells l) (by rw [length_byteCells, hsize, Nat.mul_one]) holds a m c (byteCells news) hnl hnews (by omega) (by omega) (growslice_fits (by omega) (by rw [hby]; omega))
    have hge := grownCap_ge w (l.length + m) cap 5
    have hcm2 : grownCap w (l.length + m) cap 5 ≤ maxLen := grownCap_le_maxLen w (l.length + m) cap 5 (by unfold maxLen; omega)
    refine ⟨_, _, _, hr, ⟨⟨_, (0, 0), heap_alloc_new w.drew _, Or.inl rfl, ?_, ?_⟩, by rw [hlen]; exact hge, hcm2⟩, ⟨rfl, rfl, rfl, by simp, fun k hk _ => Below.heap_alloc _ _ _ hk⟩, Or.inr (Nat.le_refl _)⟩
    · have hz1 : (Value.int IntKind.u8 0).cells.size = 1 := rfl
      simp only [Array.size_append, List.size_toArray, size_zeroCells, hz1, length_byteCells, hl]
      omega
    · simp only [Array.toList_append, List.append_assoc]
      rw [← List.append_assoc, ← byteCells_append]
      have : (byteCells (l ++ news)).length = (l ++ news).length := length_byteCells _
      rw [← this]
      exact List.take_left

theorem wpList_append_m {P : Program} (w : World) {ops : Array Oper} {rest : List Oper} {o : Oper} {a : Act} {Q : Exit → Act → World → Prop} (hgd : o.guard = none) (s x : Operand) (t : TypeId)
    (ho : o.op = .call { callee := .builtin .append, args := #[s, x], argTypes := #[t, t] })
    (i : TypeInfo) (ht : P.underlying t = some (.slice 5)) (hi : P.info? 5 = some i) (hz : i.zero = some (.int .u8 0)) (hsize : i.size = 1) (hby : i.bytes = 1)
    (g cap n : Nat) (l : List Nat) (hn : n = l.length) (hs : a.eval s = .slice (some ⟨g, 0, none⟩) n cap) (hown : RowM w g cap l) (ad : Addr) (m c : Nat) (news : List Nat) (hx : a.eval x = .slice (some ad) m c) (hl : news.length = m) (hm : 0 < m) (hnews : ∀ j u, (byteCells news)[j]? = some u → w.cell? (ad.add j) = some u) (hbytes : l.length + m ≤ 140737488355328)
    (h : ∀ g' cap' w', RowM w' g' cap' (l ++ news) → Fr (fun k => k = g) w w' → (g' = g ∨ w.heap.size ≤ g') → wpList P ops Q rest (a.put o.dst (.slice (some ⟨g', 0, none⟩) (n + m) cap')) w') : wpList P ops Q (o :: rest) a w := by
  subst hn
  refine wpList_plain hgd fun K hK => ?_
  obtain ⟨g', cap', w', hr, h2, h3, h4⟩ := run_append_m (P := P) w t o.type i ht hi hz hsize hby g cap l hown ad m c news hl hm hnews hbytes
  unfold Oper.wp execOp
  simp only [ho, resolve, invoke, builtin, Sem.run_bind, Sem.run_pure, Result.andThen_ok, List.map_toArray, List.map_cons, List.map_nil, hs, hx, hr]
  exact hK _ _ (h g' cap' w' h2 h3 h4)

/-- What a string was turned into. -/
theorem RowM.of_string (w : World) (s : ByteArray) (c d : Nat) (hd : s.size ≤ c) (hm : c ≤ maxLen) :
    RowM (w.alloc (.cells (bytesRow s c) 5 ((bytesRow s c).size, (bytesRow s c).size + d))) w.heap.size c (s.data.toList.map UInt8.toNat) := by
  have hsz : (bytesRow s c).size = c := by
    unfold bytesRow
    simp only [Array.size_append, Array.size_map, Array.size_replicate]
    have : s.data.size = s.size := rfl
    omega
  refine ⟨⟨_, _, heap_alloc_new _ _, Or.inr (by rw [hsz]; exact Nat.le_refl _), hsz, ?_⟩, by simpa using hd, hm⟩
  unfold bytesRow
  rw [Array.toList_append]
  have e : (s.data.map fun b => Value.int .u8 (b.toNat : Int)).toList = byteCells (s.data.toList.map UInt8.toNat) := by
    unfold byteCells; simp
  rw [e]
  have : (byteCells (s.data.toList.map UInt8.toNat)).length = (s.data.toList.map UInt8.toNat).length := length_byteCells _
  rw [← this]
  exact List.take_left
end Go.Proofs.YtpfajkkjnobdlaaDoor
