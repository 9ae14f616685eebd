/- 'Order': numbers sorted by height, width, number. -/
import Derived.Test.YtodgdbbhllejkaaKOc
import Derived.Test.YtodgdbbhllejkaaKKd
import Derived.Lib.OwnBridge
namespace Go.Proofs.Ytodgdbbhllejkaa
open Go.Shelf Go.RowKit Go.Lib Go.Sort

/-- Ahead: by height, width, number. -/
def ltO (A : Nat → Bp) (i k : Nat) : Bool := decide ((A i).y < (A k).y ∨ (A i).y = (A k).y ∧ ((A i).x < (A k).x ∨ (A i).x = (A k).x ∧ i < k))

theorem compareInt_cases (x y : Int) : (x < y ∧ Lib.compareInt x y = -1) ∨ (x = y ∧ Lib.compareInt x y = 0) ∨ (y < x ∧ Lib.compareInt x y = 1) := by
  unfold Lib.compareInt
  by_cases h1 : x < y
  · simp [h1]
  · by_cases h2 : y < x
    · simp [h1, h2]
    · have : x = y := by omega
      simp [this]
theorem cfO_lt (A : Nat → Bp) (i k : Nat) : decide (cfO A i k < 0) = ltO A i k := by
  unfold cfO ltO or3
  rcases compareInt_cases (A i).y (A k).y with ⟨h1, e1⟩ | ⟨h1, e1⟩ | ⟨h1, e1⟩ <;> rcases compareInt_cases (A i).x (A k).x with ⟨h2, e2⟩ | ⟨h2, e2⟩ | ⟨h2, e2⟩ <;> rcases compareInt_cases (i : Int) (k : Int) with ⟨h3, e3⟩ | ⟨h3, e3⟩ | ⟨h3, e3⟩ <;> rw [e1, e2, e3] <;> (rw [decide_eq_decide]; simp only [ne_eq]; constructor <;> intro h <;> simp at h ⊢ <;> omega)

theorem fr_grow {S : Nat → Prop} {w w' : World} (h : Fr S w w') (os : Array Obj) : Fr S w (grow w' os) :=
  h.trans (T := fun _ => False) ⟨rfl, rfl, rfl, by simp, fun k hk _ => by show (w'.heap ++ os)[k]? = w'.heap[k]?; rw [Array.getElem?_append_left hk]⟩ (fun _ _ h => h.elim)
theorem fr_putRow {α : Type} [Inhabited α] (enc : α → Value) (w : World) (g off m : Nat) (d : Array α) : Fr (fun k => k = g) w (putRow enc (Sort.ahead w m) g off d) :=
  ⟨rfl, rfl, rfl, by simp [putRow, mapBlock, Sort.ahead], fun k _ hn => by simp [putRow, mapBlock, Sort.ahead, Array.getElem?_modify, show g ≠ k from fun e => hn e.symm]⟩
theorem fr_sortWorld {α : Type} [Inhabited α] (enc : α → Value) (w : World) (g off m : Nat) (d : Array α) (os : Array Obj) : Fr (fun k => k = g) w (sortWorld enc w g off m d os) := fr_grow (fr_putRow enc w g off m d) os

set_option maxRecDepth 100000 in
theorem sort_any (A : Nat → Bp) (n cap b off pb g : Nat) (w : World) (h0 : 0 < n) (hn : n ≤ 1048576) (row : w.ownsRow 0 3 1 (.slice (some ⟨g, 0, none⟩) n n) n (intCells (List.range n))) (hbx : w.cell? ⟨pb, 0, none⟩ = some (.slice (some ⟨b, off, none⟩) n cap))
    (hc : ∀ j, j < n → w.cell? ⟨b, off + j * 3, none⟩ = some (.int .i64 (A j).x) ∧ w.cell? ⟨b, off + j * 3 + 1, none⟩ = some (.int .i64 (A j).y)) (hpg : pb ≠ g) (hbg : b ≠ g) :
    Calls Try.prog 33 #[.slice (some ⟨g, 0, none⟩) n n, .func (.func 34) #[] #[.pointer (some ⟨pb, 0, none⟩)]] w fun e w' => e = .returned (.tuple #[]) ∧ ∃ O : List Nat, w'.ownsRow 0 3 1 (.slice (some ⟨g, 0, none⟩) n n) n (intCells O) ∧ O.Perm (List.range n) ∧ O.Pairwise (fun i k => ltO A k i = false) ∧ Fr (fun k => k = g) w w' := by
  have inh : Inhabited { i : Nat // i < n } := ⟨⟨0, h0⟩⟩
  let enc : { i : Nat // i < n } → Value := fun i => .int .i64 (i.val : Int)
  let cf : { i : Nat // i < n } → { i : Nat // i < n } → Int := fun i k => cfO A i.val k.val
  have hlt : ∀ x y, ltOf cf x y = ltO A x.val y.val := fun x y => cfO_lt A x.val y.val
  have hO : SWO (ltOf cf) := {
    irrefl := fun x => by rw [hlt]; unfold ltO; simp
    trans := fun x y z h1 h2 => by rw [hlt] at *; unfold ltO at *; simp only [decide_eq_true_eq] at *; omega
    ntrans := fun x y z h1 h2 => by rw [hlt] at *; unfold ltO at *; simp only [decide_eq_false_iff_not] at *; omega }
  have hT : ∀ x y, (ltOf cf) x y = false → (ltOf cf) y x = false → x = y := fun x y h1 h2 => by
    rw [hlt] at *
    unfold ltO at *
    simp only [decide_eq_false_iff_not] at *
    exact Subtype.ext (by omega)
  let zs : List { i : Nat // i < n } := (List.range n).attach.map fun i => ⟨i.val, List.mem_range.1 i.property⟩
  have hzv : zs.map (·.val) = List.range n := by
    show ((List.range n).attach.map _).map _ = _
    rw [List.map_map]
    exact List.attach_map_subtype_val _
  have hmap : ∀ ys : List { i : Nat // i < n }, ys.map enc = intCells (ys.map (·.val)) := fun ys => by
    unfold intCells
    rw [List.map_map]; rfl
  have row' : w.ownsRow 0 3 1 (.slice (some ⟨g, 0, none⟩) n n) n (zs.map enc) := by rw [hmap, hzv]; exact row
  obtain ⟨g', cap', e, _, hglt, _, _, hzl, hH⟩ := holds_of_ownsRow row' (by intro h; cases h)
  simp only [Value.slice.injEq, Option.some.injEq, Addr.mk.injEq] at e
  obtain ⟨⟨rfl, _⟩, _, rfl⟩ := e
  have eg : ∀ args w, (callFunc 34 args).run Try.prog w = .ok (.enter 34 args) w := enters_of Try.func34 (by kernel_rfl) rfl
  have hcmp : CmpLays1 Try.prog 34 #[.pointer (some ⟨pb, 0, none⟩)] enc cf g 0 zs.toArray.size w := fun m os dk _ x y => by
    have f := fr_sortWorld enc w g 0 m dk os
    have k0 := hc x.val x.property
    have k1 := hc y.val y.property
    exact closure_any A x.val y.val n cap b off pb _ x.property y.property (by omega) (by rw [f.cellEq (seen_lt hbx) hpg]; exact hbx) (by rw [f.cellEq (seen_lt k0.1) hbg]; exact k0.1) (by rw [f.cellEq (seen_lt k0.1) hbg]; exact k0.2) (by rw [f.cellEq (seen_lt k0.1) hbg]; exact k1.1) (by rw [f.cellEq (seen_lt k0.1) hbg]; exact k1.2)
  have hsz : zs.toArray.size = n := by simpa using hzl
  have hS := Any.slices_SortFunc_total Try.sortL enc (fun _ => rfl) cf hO 34 #[.pointer (some ⟨pb, 0, none⟩)] g 0 n zs.toArray w eg hcmp hH hglt (by rw [hsz]; omega) hT
  rw [hsz] at hS
  change Calls Try.prog 33 _ _ _ at hS
  refine hS.mono ?_
  rintro e w' ⟨rfl, q, os, rfl⟩
  refine ⟨rfl, (zs.mergeSort fun x y => !(ltOf cf) y x).map (·.val), ?_, ?_, ?_, fr_sortWorld _ _ _ _ _ _ _⟩
  · have hl : (zs.mergeSort fun x y => !(ltOf cf) y x).length = n := by rw [List.length_mergeSort]; exact hzl
    have h1 := ownsRow_putRow (q := q) (ys := zs.mergeSort fun x y => !(ltOf cf) y x) row' hl (Nat.le_refl _)
    rw [List.take_of_length_le (by omega), hmap] at h1
    exact row_kept h1 (fr_grow (Fr.refl (fun _ => False) _) os) (fun _ _ h => h)
  · rw [← hzv]
    exact (List.mergeSort_perm _ _).map _
  · rw [List.pairwise_map]
    have h1 := List.pairwise_mergeSort (le := fun x y => !(ltOf cf) y x) (fun a b c h1 h2 => by
      simp only [Bool.not_eq_true'] at *
      exact hO.ntrans _ _ _ h2 h1) (fun a b => by
      cases h : ltOf cf b a with
      | false => rfl
      | true =>
        cases h' : ltOf cf a b with
        | false => rfl
        | true => have := hO.trans _ _ _ h h'; rw [hO.irrefl] at this; cases this) zs
    refine h1.imp ?_
    intro a b h
    simp only [Bool.not_eq_true'] at h
    rw [← hlt]; exact h

theorem one_cell {w : World} {b : Nat} {x : Value} {tt : TypeId} (h : w.heap[b]? = some (.cells #[x] tt (0, 0))) : w.cell? ⟨b, 0, none⟩ = some x := by
  simp [World.cell?, h]
theorem range_pad (n i : Nat) (h : i < n) : (List.range i ++ List.replicate (n - i) 0).set i i = List.range (i + 1) ++ List.replicate (n - (i + 1)) 0 := by
  have := pad_set (List.range i) n i (by rw [List.length_range]; exact h)
  rw [List.length_range] at this
  rw [this, List.range_succ]

set_option maxRecDepth 100000 in
set_option maxHeartbeats 2000000 in
theorem order_bad (ao : Option Addr) (n cap : Nat) (A : Nat → Bp) (w : World) (hB : BpsAt w ao n A) (hf : allB A n = false) :
    Calls Try.prog 19 #[.slice ao n cap] w fun e w' => e = .returned (.tuple #[.slice none 0 0, .int .i64 110]) ∧ Fr (fun _ => False) w w' := by
  have HM : Hid (∀ w', Fr (fun _ => False) w w' → Calls Try.prog 31 #[.slice ao n cap] w' fun e w'' => e = .returned (.bool false) ∧ Fr (fun _ => False) w' w'') := fun w' f => by
    have := mayBe_any ao n cap A w' (hB.kept f)
    rwa [hf] at this
  clear hf hB
  have HB : Hid ((w.alloc (.cells #[.slice ao n cap] 22)).heap[w.heap.size]? = some (.cells #[.slice ao n cap] 22 (0, 0))) := heap_alloc_new _ _
  have HF : Hid (Fr (fun _ => False) w (w.alloc (.cells #[.slice ao n cap] 22))) := (Fr.refl _ _).alloc _
  have c0 := one_cell HB.out
  go_enter Try.func19, Try.ntmps19
  go_wp2_with fail
  generalize w.alloc (.cells #[.slice ao n cap] 22) = w0 at *
  refine (HM.out _ HF.out).mono ?_
  rintro e w2 ⟨rfl, hf2⟩
  have HF2 : Hid (Fr (fun _ => False) w w2) := HF.out.trans hf2 (fun _ _ h => h)
  clear hf2
  go_wp2_with fail
  go_ret2
  exact ⟨rfl, HF2.out⟩

set_option maxRecDepth 100000 in
set_option maxHeartbeats 4000000 in
theorem order_ok (ao : Option Addr) (n cap : Nat) (A : Nat → Bp) (w : World) (hB : BpsAt w ao n A) (hn : n ≤ 1048576) (hf : allB A n = true) :
    Calls Try.prog 19 #[.slice ao n cap] w fun e w' => ∃ v O, e = .returned (.tuple #[v, .int .i64 0]) ∧ w'.ownsRow w.heap.size 3 1 v n (intCells O) ∧ O.Perm (List.range n) ∧ O.Pairwise (fun i k => ltO A k i = false) ∧ Fr (fun _ => False) w w' := by
  obtain ⟨j0, hj, hy0, hy1, hy2⟩ := info_parts Try.infoInt
  have HM : Hid (∀ w', Fr (fun _ => False) w w' → Calls Try.prog 31 #[.slice ao n cap] w' fun e w'' => e = .returned (.bool true) ∧ Fr (fun _ => False) w' w'') := fun w' f => by
    have := mayBe_any ao n cap A w' (hB.kept f)
    rwa [hf] at this
  have HBP : Hid (∀ w', Fr (fun _ => False) w w' → BpsAt w' ao n A) := fun w' f => hB.kept f
  clear hf hB
  have HB : Hid ((w.alloc (.cells #[.slice ao n cap] 22)).heap[w.heap.size]? = some (.cells #[.slice ao n cap] 22 (0, 0))) := heap_alloc_new _ _
  have HF : Hid (Fr (fun _ => False) w (w.alloc (.cells #[.slice ao n cap] 22))) := (Fr.refl _ _).alloc _
  have c0 := one_cell HB.out
  go_enter Try.func19, Try.ntmps19
  go_wp2_with fail
  generalize w.alloc (.cells #[.slice ao n cap] 22) = w0 at *
  refine (HM.out _ HF.out).mono ?_
  rintro e w2 ⟨rfl, hf2⟩
  have HB2 : Hid (w2.heap[w.heap.size]? = some (.cells #[.slice ao n cap] 22 (0, 0))) := blkOld hf2 HB.out
  have HF2 : Hid (Fr (fun _ => False) w w2) := HF.out.trans hf2 (fun _ _ h => h)
  clear hf2 HF HB c0
  have c0 := one_cell HB2.out
  go_wp2_with (first | (at_make; refine wpList_make_full _ rfl _ _ 31 rfl 0 3 j0 (.int .i64 0) 1 Try.underlying31 hj hy0 hy1 .i64 .i64 _ _ n rfl rfl ?_ ?_ ?_ ?_ ?_ ?_))
  · rfl
  · rfl
  · rw [hy2]; omega
  · unfold maxLen; omega
  · omega
  · intro w3 hown hgrow
    have HO : Hid (w3.ownsRow 0 3 1 (.slice (some ⟨w2.heap.size, 0, none⟩) n n) n (intCells (List.range 0 ++ List.replicate (n - 0) 0))) := by
      rw [toList_madeCells_one, intCells_zero] at hown
      rw [List.range_zero, List.nil_append, Nat.sub_zero]
      exact hown
    have hrb : w.heap.size < w2.heap.size := lt_of_block HB2.out
    have HF23 : Hid (Fr (fun _ => False) w2 w3) := (Fr.refl (fun _ => False) w2).grown hgrow (fun _ e _ => by cases e)
    have HB3 : Hid (w3.heap[w.heap.size]? = some (.cells #[.slice ao n cap] 22 (0, 0))) := blkOld HF23.out HB2.out
    have HF3 : Hid (Fr (fun _ => False) w w3) := HF2.out.trans HF23.out (fun _ _ h => h)
    clear hown hgrow HF23 HB2 HF2 HM c0
    generalize w2.heap.size = gc at *
    go_wp2_with fail
    go_loopg [5, 14] n (fun q _ k wr => ∃ (i : Nat), i + q = n ∧ k = .int .i64 (i : Int) ∧ wr.ownsRow 0 3 1 (.slice (some ⟨gc, 0, none⟩) n n) n (intCells (List.range i ++ List.replicate (n - i) 0)) ∧ wr.heap[w.heap.size]? = some (.cells #[.slice ao n cap] 22 (0, 0)) ∧ Fr (fun _ => False) w wr)
    case atStart => exact ⟨0, by omega, rfl, HO.out, HB3.out, HF3.out⟩
    case round =>
      obtain ⟨i, hjq, rfl, how, hrbk, hfr⟩ := hrel
      have HOi : Hid (wr.ownsRow 0 3 1 (.slice (some ⟨gc, 0, none⟩) n n) n (intCells (List.range i ++ List.replicate (n - i) 0))) := how
      have HRB : Hid (wr.heap[w.heap.size]? = some (.cells #[.slice ao n cap] 22 (0, 0))) := hrbk
      have HFr : Hid (Fr (fun _ => False) w wr) := hfr
      clear how hrbk hfr HO HB3 HF3
      by_cases h1 : i < n
      · have d1 : decide (i < n) = true := decide_eq_true h1
        have c6 : wr.cell? ⟨gc, i, none⟩ = some (.int .i64 0) := by
          rw [World.ownsRow.cellAt HOi.out i (by omega), intCells_get _ (by rw [List.length_append, List.length_range, List.length_replicate]; omega), List.getD_eq_getElem?_getD, List.getElem?_append_right (by simp), List.length_range, Nat.sub_self, show n - i = (n - (i + 1)) + 1 by omega]
          rfl
        have f6 : wr.frozen? ⟨gc, i, none⟩ = false := World.ownsRow.frozenAt HOi.out i
        have HO6 : Hid ((wr.setCell ⟨gc, i, none⟩ (.int .i64 (i : Int))).ownsRow 0 3 1 (.slice (some ⟨gc, 0, none⟩) n n) n (intCells (List.range (i + 1) ++ List.replicate (n - (i + 1)) 0))) := by
          have := (World.ownsRow.stored HOi.out i (.int .i64 (i : Int))).1
          rw [intCells_set, range_pad n i h1] at this
          exact this
        have HB6 : Hid ((wr.setCell ⟨gc, i, none⟩ (.int .i64 (i : Int))).heap[w.heap.size]? = some (.cells #[.slice ao n cap] 22 (0, 0))) := by
          show _ = _
          rw [heap_setCell_other _ _ _ _ (show w.heap.size ≠ gc by omega)]
          exact HRB.out
        have HF6 : Hid (Fr (fun _ => False) w (wr.setCell ⟨gc, i, none⟩ (.int .i64 (i : Int)))) := HFr.out.setCell (p := ⟨gc, i, none⟩) (fun h => by have : gc < w.heap.size := h; omega) _
        go_wp2_with fail
        go_roundg (n - (i + 1))
        case measure => omega
        case rel => exact ⟨i + 1, by omega, by go_num, HO6.out, HB6.out, HF6.out⟩
      · have d1 : decide (i < n) = false := decide_eq_false h1
        have hi : i = n := by omega
        have HON : Hid (wr.ownsRow 0 3 1 (.slice (some ⟨gc, 0, none⟩) n n) n (intCells (List.range n))) := by
          have := HOi.out
          rw [hi, Nat.sub_self, List.replicate_zero, List.append_nil] at this
          exact this
        have HSO : Hid (Calls Try.prog 33 #[.slice (some ⟨gc, 0, none⟩) n n, .func (.func 34) #[] #[.pointer (some ⟨w.heap.size, 0, none⟩)]] wr fun e w' => e = .returned (.tuple #[]) ∧ ∃ O : List Nat, w'.ownsRow 0 3 1 (.slice (some ⟨gc, 0, none⟩) n n) n (intCells O) ∧ O.Perm (List.range n) ∧ O.Pairwise (fun i k => ltO A k i = false) ∧ Fr (fun k => k = gc) wr w') := by
          rcases Nat.eq_zero_or_pos n with h0 | h0
          · have hS := AnyF.slices_SortFunc_none (P := Try.prog) (ρ := Try.sortL_ren) { Try.sortL with } (some ⟨gc, 0, none⟩) n (.func (.func 34) #[] #[.pointer (some ⟨w.heap.size, 0, none⟩)]) wr
            change Calls Try.prog 33 _ _ _ at hS
            subst h0
            refine hS.mono ?_
            rintro e w' ⟨rfl, rfl⟩
            exact ⟨rfl, [], HON.out, List.Perm.refl _, List.Pairwise.nil, Fr.refl _ _⟩
          · obtain ⟨b, off, hao, hcw⟩ := (HBP.out w (Fr.refl _ _)).cells h0
            subst hao
            have hblt := seen_lt (hcw 0 h0).1
            exact sort_any A n cap b off w.heap.size gc wr h0 hn HON.out (one_cell HRB.out) (fun j hj => ⟨by rw [HFr.out.cellEq hblt (fun h => h)]; exact (hcw j hj).1, by rw [HFr.out.cellEq hblt (fun h => h)]; exact (hcw j hj).2.1⟩) (by omega) (by omega)
        clear hi
        go_wp2_with fail
        refine Calls.mono HSO.out ?_
        rintro e w4 ⟨rfl, O, ho4, hp4, hw4, hf4⟩
        have HE : Hid (w4.ownsRow w.heap.size 3 1 (.slice (some ⟨gc, 0, none⟩) n n) n (intCells O) ∧ O.Perm (List.range n) ∧ O.Pairwise (fun i k => ltO A k i = false) ∧ Fr (fun _ => False) w w4) := ⟨ownsRow_base ho4 (fun k hk => by simp [Value.ownBlock] at hk; omega), hp4, hw4, HFr.out.trans hf4 (fun k hk h => by omega)⟩
        clear ho4 hp4 hw4 hf4
        go_wp2_with fail
        go_ret2
        exact ⟨_, O, rfl, HE.out⟩

end Go.Proofs.Ytodgdbbhllejkaa
