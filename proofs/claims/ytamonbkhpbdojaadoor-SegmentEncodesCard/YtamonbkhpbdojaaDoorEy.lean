/- Segments' headers: copies of a segment, by the verifier's kit. -/
import Derived.Test.YtamonbkhpbdojaaDoorSx
import Derived.Test.YtamonbkhpbdojaaDoorMy
import Derived.Test.YtamonbkhpbdojaaDoorRef3
namespace Go.Proofs.YtamonbkhpbdojaaDoor
set_option maxRecDepth 100000
open Go.RowKit

theorem RowS.news {w : World} {ao : Option Addr} {m cap : Nat} {xs : List Value} (h : RowS w (.slice ao m cap) xs) : xs.length = m ∧ (0 < m → ∃ ad, ao = some ad ∧ ∀ j u, xs[j]? = some u → w.cell? (ad.add j) = some u) := by
  obtain ⟨ao', cap', e, _, hc⟩ := h
  simp only [Value.slice.injEq] at e
  obtain ⟨rfl, rfl, rfl⟩ := e
  refine ⟨rfl, fun h0 => ?_⟩
  obtain ⟨b, off, e, hc⟩ := hc (List.length_pos_iff.1 h0)
  refine ⟨_, e, fun j u hu => ?_⟩
  have hj : j < xs.length := by
    rcases Nat.lt_or_ge j xs.length with h | h
    · exact h
    · rw [List.getElem?_eq_none h] at hu; cases hu
  have h2 : (⟨b, off, none⟩ : Addr).add j = ⟨b, off + j, none⟩ := by unfold Addr.add; split <;> simp_all
  rw [h2, hc j hj, hu]
theorem iCells_one (l : List Int) : ∀ u ∈ iCells l, u.oneCell' = true := by
  intro u hu
  simp only [iCells, List.mem_map] at hu
  obtain ⟨x, _, rfl⟩ := hu
  rfl
theorem boolCells_one (l : List Bool) : ∀ u ∈ boolCells l, u.oneCell' = true := by
  intro u hu
  simp only [boolCells, List.mem_map] at hu
  obtain ⟨x, _, rfl⟩ := hu
  rfl

/-- A slice whose block is younger than a world. -/
def New (w : World) (v : Value) : Prop := ∀ k, v.ownBlock = some k → w.heap.size ≤ k
theorem New.nil (w : World) : New w (.slice none 0 0) := fun _ e => by cases e
theorem New.own {w w' : World} {e n : Nat} {v : Value} {xs : List Value} (h : w'.ownsRow w.heap.size e 1 v n xs) : New w v := fun k ek => (h.lt k ek).1
theorem New.ne {w : World} {v : Value} (h : New w v) {xb : Nat} (hx : xb < w.heap.size) : ∀ b off n c, v = .slice (some ⟨b, off, none⟩) n c → b ≠ xb := by
  rintro b off n c rfl rfl
  have := h b rfl
  omega
theorem New.later {w w' : World} {v : Value} (h : New w' v) (hx : w.heap.size ≤ w'.heap.size) : New w v := fun k ek => Nat.le_trans hx (h k ek)

set_option maxHeartbeats 2000000 in
theorem copyInts_any (ao : Option Addr) (n cap : Nat) (l : List Int) (w : World) (h : RowS w (.slice ao n cap) (iCells l)) (hl : n ≤ 17592186044416) :
    Calls Tryd.prog 20 #[.slice ao n cap] w fun e w' => ∃ rv, e = .returned rv ∧ RowS w' rv (iCells l) ∧ New w rv ∧ Fr (fun _ => False) w w' := by
  obtain ⟨i0, hi, hz0, hz1, hz2⟩ := info_parts Tryd.info3
  obtain ⟨hn, hc⟩ := h.news
  have HC : Hid (0 < n → ∃ ad, ao = some ad ∧ ∀ j u, (iCells l)[j]? = some u → w.cell? (ad.add j) = some u) := hc
  have HN : Hid ((iCells l).length = n) := hn
  clear h hc hn
  by_cases h0 : n = 0
  · have hl0 : l = [] := List.eq_nil_of_length_eq_zero (by rw [← length_iCells, HN.out]; exact h0)
    subst h0 hl0
    cases ao
    all_goals
      go_enter Tryd.func20, Tryd.ntmps20
      go_wp2_with fail
      go_ret
      exact ⟨_, rfl, ⟨none, 0, rfl, by simp [iCells], fun h => absurd rfl h⟩, New.nil _, Fr.refl _ _⟩
  · obtain ⟨ad, rfl, hcc⟩ := HC.out (by omega)
    have HCC : Hid (∀ j u, (iCells l)[j]? = some u → w.cell? (ad.add j) = some u) := hcc
    clear hcc HC
    go_enter Tryd.func20, Tryd.ntmps20
    go_wp2_with (first | (at_builtin; refine wpList_append_lies w rfl _ _ 23 rfl w.heap.size 3 i0 (.int .i64 0) 1 8 Tryd.underlying23 hi hz0 hz1 hz2 rfl (by decide) (.slice none 0 0) 0 [] rfl (own_nil _ _ _) ad n cap (iCells l) rfl (by rw [HN.out]; omega) HCC.out (iCells_one l) (by omega) (by unfold maxLen; omega) (by omega) (Nat.le_refl _) w.heap.size rfl ?_))
    intro g cap' w1 ho hg _ _
    have HO : Hid (w1.ownsRow w.heap.size 3 1 (.slice (some ⟨g, 0, none⟩) n cap') n (iCells l)) := ho
    have HF : Hid (Fr (fun _ => False) w w1) := (Fr.refl (fun _ => False) _).grown hg (fun _ e _ => by cases e)
    clear ho hg
    go_wp2_with fail
    go_ret
    exact ⟨_, rfl, RowS.of_own (b := w.heap.size) (e := 3) (by rw [HN.out]; exact HO.out) (by rw [HN.out]; omega), New.own HO.out, HF.out⟩

/-- Copy of bytes that are seen. -/
theorem copyB_any (ao : Option Addr) (n cap : Nat) (l : List Nat) (w : World) (h : RowS w (.slice ao n cap) (byteCells l)) (hl : n ≤ 140737488351232) :
    Calls Tryd.prog 19 #[.slice ao n cap] w fun e w' => ∃ rv, e = .returned rv ∧ w'.ownsRow w.heap.size 5 1 rv l.length (byteCells l) ∧ Fr (fun _ => False) w w' := by
  obtain ⟨hn, hc⟩ := h.news
  rw [length_byteCells] at hn
  subst hn
  rcases Nat.eq_zero_or_pos l.length with h0 | h0
  · have hl0 : l = [] := List.eq_nil_of_length_eq_zero h0
    subst hl0
    obtain ⟨i0, hi, hz0, hz1, hz2⟩ := info_parts Tryd.info5
    show Calls Tryd.prog 19 #[.slice ao 0 cap] w _
    clear h h0 hz0 hz1 hz2 hc
    cases ao
    all_goals
      go_enter Tryd.func19, Tryd.ntmps19
      go_wp2_with fail
      go_ret
      exact ⟨_, rfl, own_nil _ _ _, Fr.refl _ _⟩
  · obtain ⟨ad, rfl, hcx⟩ := hc h0
    refine (copy_some ad l.length cap l w rfl (by omega) hcx).mono ?_
    rintro e w' ⟨rv, rfl, ho, hb⟩
    exact ⟨rv, rfl, ho, Fr.of_below hb _⟩

/-- A segment in a block of its own. -/
def Bk (w : World) (xb : Nat) (xs : List Value) : Prop := w.heap[xb]? = some (.cells xs.toArray 27 (0, 0))
theorem Bk.kept {w w' : World} {xb : Nat} {xs : List Value} {S : Nat → Prop} (h : Bk w xb xs) (f : Fr S w w') (hs : ¬ S xb) : Bk w' xb xs := by
  unfold Bk; rw [f.block xb (lt_of_block h) hs]; exact h
theorem Bk.set {w : World} {xb : Nat} {xs : List Value} (h : Bk w xb xs) (j : Nat) (u : Value) : Bk (w.setCell ⟨xb, j, none⟩ u) xb (xs.set j u) := by
  unfold Bk at *
  simp [World.setCell, Array.getElem?_modify, h]
theorem Bk.cell {w : World} {xb : Nat} {xs : List Value} (h : Bk w xb xs) (j : Nat) : w.cell? ⟨xb, j, none⟩ = xs[j]? := by
  unfold Bk at h
  simp [World.cell?, h]
theorem Bk.frozen {w : World} {xb : Nat} {xs : List Value} (h : Bk w xb xs) (j : Nat) : w.frozen? ⟨xb, j, none⟩ = false := by
  unfold Bk at h
  simp [World.frozen?, h]
/-- A row, kept where a block that is younger than its own is written. -/
theorem RowS.write {w : World} {v : Value} {xs : List Value} (h : RowS w v xs) (xb j : Nat) (u : Value) (hne : ∀ b off n c, v = .slice (some ⟨b, off, none⟩) n c → b ≠ xb) : RowS (w.setCell ⟨xb, j, none⟩ u) v xs := h.keptB (Fr.one w xb j u) (fun b off n c e e2 => hne b off n c e e2)

theorem Bk.new (w : World) (xs : List Value) : Bk (w.alloc (.cells xs.toArray 27)) w.heap.size xs := by
  unfold Bk World.alloc
  simp only [Array.getElem?_push_size]
theorem size_alloc (w : World) (o : Obj) : w.heap.size < (w.alloc o).heap.size := by
  unfold World.alloc
  simp only [Array.size_push]
  omega
theorem cell_two (w : World) (o : Obj) (xs ys : Array Value) (j : Nat) (u : Value) (h : xs[j]? = some u) : ((w.alloc o).alloc (.cells (xs ++ ys) 27)).drew.cell? ⟨w.heap.size + 1, 0 + j, none⟩ = some u := by
  have hj : j < xs.size := by
    rcases Nat.lt_or_ge j xs.size with h' | h'
    · exact h'
    · rw [Array.getElem?_eq_none h'] at h; cases h
  have e : (w.alloc o).heap.size = w.heap.size + 1 := by unfold World.alloc; simp only [Array.size_push]
  have e2 : ((w.alloc o).alloc (.cells (xs ++ ys) 27)).drew.heap[w.heap.size + 1]? = some (.cells (xs ++ ys) 27 (0, 0)) := by
    rw [← e]
    show ((w.alloc o).heap.push _)[(w.alloc o).heap.size]? = _
    simp only [Array.getElem?_push_size]
  unfold World.cell?
  simp only [e2]
  rw [Array.getElem?_eq_getElem hj] at h
  simp [Array.getElem?_append, hj, Option.some.inj h]
/-- What CopySegments of one segment answers. -/
def CopP (w : World) (s : SgX) (e : Ending) (w' : World) : Prop :=
  Fr (fun _ => False) w w' ∧ ∃ g cg vr vk vd, e = .returned (.slice (some ⟨g, 0, none⟩) 1 cg) ∧ SgAt w' s vr vk vd ∧ ∀ j u, (sgC s vr vk vd)[j]? = some u → w'.cell? ⟨g, 0 + j, none⟩ = some u

theorem Tryd.info27 : (Tryd.prog.info? 27).map (fun i => (i.zero, i.size, i.bytes)) = some (some (.agg #[.int .i64 0, .int .i64 0, .int .i64 0, .slice none 0 0, .slice none 0 0, .bool false, .slice none 0 0]), 7, 104) := by kernel_rfl

set_option maxHeartbeats 8000000 in
theorem copyOne (b off0 cap : Nat) (s : SgX) (a1 : Option Addr) (c1 : Nat) (a2 : Option Addr) (c2 : Nat) (a3 : Option Addr) (c3 : Nat) (w : World) (hs : SgAt w s (.slice a1 s.refs.length c1) (.slice a2 s.keep.length c2) (.slice a3 s.data.length c3)) (hdb : s.data.length ≤ 140737488351232)
    (hc : w.cell? ⟨b, off0, none⟩ = some (.int .i64 s.num) ∧ w.cell? ⟨b, off0 + 1, none⟩ = some (.int .i64 s.kind) ∧ w.cell? ⟨b, off0 + 2, none⟩ = some (.int .i64 s.page) ∧ w.cell? ⟨b, off0 + 3, none⟩ = some (.slice a1 s.refs.length c1) ∧ w.cell? ⟨b, off0 + 4, none⟩ = some (.slice a2 s.keep.length c2) ∧ w.cell? ⟨b, off0 + 5, none⟩ = some (.bool s.stay) ∧ w.cell? ⟨b, off0 + 6, none⟩ = some (.slice a3 s.data.length c3))
    (hr : s.refs.length ≤ 5000) (hk : s.keep.length ≤ 140737488351232) :
    Calls Tryd.prog 7 #[.slice (some ⟨b, off0, none⟩) 1 cap] w (CopP w s) := by
  obtain ⟨i0, hi, hz0, hz1, hz2⟩ := info_parts Tryd.info27
  obtain ⟨j0, hj, hj0, hj1, hj2⟩ := info_parts Tryd.info4
  have HS : Hid (SgAt w s (.slice a1 s.refs.length c1) (.slice a2 s.keep.length c2) (.slice a3 s.data.length c3)) := hs
  have HDB : Hid (s.data.length ≤ 140737488351232) := hdb
  have HL : Hid (s.refs.length ≤ 5000 ∧ s.keep.length ≤ 140737488351232) := ⟨hr, hk⟩
  obtain ⟨q0, q1, q2, q3, q4, q5, q6⟩ := hc
  clear hs hdb hr hk
  go_enter Tryd.func7, Tryd.ntmps7
  go_wp2_with fail
  go_loopw [3, 4, 5, 6] (fun u3 u4 _ _ wr => (u4 = .int .i64 0 ∧ u3 = .slice none 0 0 ∧ wr = w) ∨ (u4 = .int .i64 1 ∧ CopP w s (.returned u3) wr)) (fun _ i _ _ _ => (1 - (intOf i).toNat))
  case atStart => exact Or.inl ⟨rfl, rfl, rfl⟩
  case round =>
    rcases hrel with ⟨rfl, rfl, rfl⟩ | ⟨rfl, hP⟩
    · go_upto_region 7 with (fail)
      have HF1 : Hid (Fr (fun _ => False) wr (wr.alloc (.cells #[.int .i64 s.num, .int .i64 s.kind, .int .i64 s.page, .slice a1 s.refs.length c1, .slice a2 s.keep.length c2, .bool s.stay, .slice a3 s.data.length c3] 27))) := (Fr.refl _ _).alloc _
      have HB1 : Hid (Bk (wr.alloc (.cells #[.int .i64 s.num, .int .i64 s.kind, .int .i64 s.page, .slice a1 s.refs.length c1, .slice a2 s.keep.length c2, .bool s.stay, .slice a3 s.data.length c3] 27)) wr.heap.size [.int .i64 s.num, .int .i64 s.kind, .int .i64 s.page, .slice a1 s.refs.length c1, .slice a2 s.keep.length c2, .bool s.stay, .slice a3 s.data.length c3]) := Bk.new wr _
      have HX : Hid (wr.heap.size < (wr.alloc (.cells #[.int .i64 s.num, .int .i64 s.kind, .int .i64 s.page, .slice a1 s.refs.length c1, .slice a2 s.keep.length c2, .bool s.stay, .slice a3 s.data.length c3] 27)).heap.size) := size_alloc _ _
      obtain ⟨xb, hxb⟩ : ∃ xb, xb = wr.heap.size := ⟨_, rfl⟩
      have HXB : Hid (xb = wr.heap.size) := hxb
      rw [← hxb] at HB1 HX ⊢
      clear hxb
      generalize (wr.alloc (.cells #[.int .i64 s.num, .int .i64 s.kind, .int .i64 s.page, .slice a1 s.refs.length c1, .slice a2 s.keep.length c2, .bool s.stay, .slice a3 s.data.length c3] 27)) = w1 at *
      clear q0 q1 q2 q3 q4 q5 q6
      have c3' := HB1.out.cell 3
      have f3' := HB1.out.frozen 3
      simp only [List.getElem?_cons_zero, List.getElem?_cons_succ] at c3'
      have HS1 : Hid (SgAt w1 s (.slice a1 s.refs.length c1) (.slice a2 s.keep.length c2) (.slice a3 s.data.length c3)) := HS.out.kept HF1.out
      go_wp2_with fail
      refine (copyInts_any a1 s.refs.length c1 s.refs w1 HS1.out.refs (by have := HL.out; omega)).mono ?_
      rintro e w2 ⟨rv, rfl, hr2, hn2, hf2⟩
      obtain ⟨a4, c4, rfl⟩ := hr2.slice
      have HF2 : Hid (Fr (fun _ => False) w1 w2) := hf2
      have HB2 : Hid (Bk w2 xb [.int .i64 s.num, .int .i64 s.kind, .int .i64 s.page, .slice a1 s.refs.length c1, .slice a2 s.keep.length c2, .bool s.stay, .slice a3 s.data.length c3]) := HB1.out.kept hf2 (fun h => h)
      have HR2 : Hid (RowS w2 (.slice a4 (iCells s.refs).length c4) (iCells s.refs)) := hr2
      have HN2 : Hid (New w1 (.slice a4 (iCells s.refs).length c4)) := hn2
      clear hr2 hn2 hf2 c3' f3' HB1
      have c3' := HB2.out.cell 3
      have f3' := HB2.out.frozen 3
      simp only [List.getElem?_cons_zero, List.getElem?_cons_succ] at c3'
      go_upto_region 8 with (fail)
      obtain ⟨w3, hw3⟩ : ∃ w3, w3 = w2.setCell ⟨xb, 3, none⟩ (.slice a4 (iCells s.refs).length c4) := ⟨_, rfl⟩
      have HB3 : Hid (Bk w3 xb [.int .i64 s.num, .int .i64 s.kind, .int .i64 s.page, .slice a4 (iCells s.refs).length c4, .slice a2 s.keep.length c2, .bool s.stay, .slice a3 s.data.length c3]) := by show Bk _ _ _; rw [hw3]; exact HB2.out.set 3 (.slice a4 (iCells s.refs).length c4)
      have HR3 : Hid (RowS w3 (.slice a4 (iCells s.refs).length c4) (iCells s.refs)) := by show RowS _ _ _; rw [hw3]; exact HR2.out.write xb 3 _ (HN2.out.ne HX.out)
      have HF3 : Hid (Fr (fun _ => False) wr w3) := by
        show Fr _ _ _
        rw [hw3]
        exact (HF1.out.trans HF2.out (fun _ _ h => h)).trans (Fr.one w2 xb 3 _) (fun k hk e => by have := HXB.out; omega)
      have HX3 : Hid (xb < w3.heap.size) := lt_of_block HB3.out
      have HNR : Hid (∀ b off n c, (.slice a4 (iCells s.refs).length c4 : Value) = .slice (some ⟨b, off, none⟩) n c → b ≠ xb) := HN2.out.ne HX.out
      rw [← hw3]
      clear hw3 c3' f3' HB2 HR2 HN2 HF2 HF1 HS1 HX
      have HK3 : Hid (RowS w3 (.slice a2 s.keep.length c2) (boolCells s.keep)) := (HS.out.kept HF3.out).keep
      have HKN : Hid ((boolCells s.keep).length = s.keep.length * 1 ∧ (0 < s.keep.length → ∃ ad, a2 = some ad ∧ ∀ j u, (boolCells s.keep)[j]? = some u → w3.cell? (ad.add j) = some u)) := ⟨by rw [length_boolCells, Nat.mul_one], HK3.out.news.2⟩
      have c4' := HB3.out.cell 4
      simp only [List.getElem?_cons_zero, List.getElem?_cons_succ] at c4'
      go_wp2_with (first | (at_builtin; refine wpList_plain rfl fun K hK => wp_append_any _ (.tmp 21) (.tmp 23) 24 rfl w3.heap.size 4 j0 (.bool false) 1 1 Tryd.underlying24 hj hj0 hj1 hj2 rfl (by decide) (.slice none 0 0) 0 [] rfl (own_nil _ _ _) a2 s.keep.length c2 (boolCells s.keep) rfl HKN.out.1 HKN.out.2 (boolCells_one _) (by have := HL.out; unfold maxLen; omega) (by have := HL.out; omega) (Nat.le_refl _) ?_))
      intro v5 w4 ho5 hg5
      refine hK _ _ ?_
      clear hK
      obtain ⟨a5, c5, rfl⟩ := own_slice ho5
      have HO4 : Hid (w4.ownsRow w3.heap.size 4 1 (.slice a5 s.keep.length c5) s.keep.length (boolCells s.keep)) := by
        show World.ownsRow _ _ _ _ _ _ _
        exact ho5
      have HG4 : Hid (Fr (fun _ => False) w3 w4) := (Fr.refl _ w3).grown hg5 (fun _ e _ => by cases e)
      have HB4 : Hid (Bk w4 xb [.int .i64 s.num, .int .i64 s.kind, .int .i64 s.page, .slice a4 (iCells s.refs).length c4, .slice a2 s.keep.length c2, .bool s.stay, .slice a3 s.data.length c3]) := HB3.out.kept HG4.out (fun h => h)
      clear ho5 hg5 c4'
      have c4' := HB4.out.cell 4
      have f4' := HB4.out.frozen 4
      simp only [List.getElem?_cons_zero, List.getElem?_cons_succ] at c4'
      go_upto_region 9 with (fail)
      obtain ⟨w5, hw5⟩ : ∃ w5, w5 = w4.setCell ⟨xb, 4, none⟩ (.slice a5 s.keep.length c5) := ⟨_, rfl⟩
      have HB5 : Hid (Bk w5 xb [.int .i64 s.num, .int .i64 s.kind, .int .i64 s.page, .slice a4 (iCells s.refs).length c4, .slice a5 s.keep.length c5, .bool s.stay, .slice a3 s.data.length c3]) := by show Bk _ _ _; rw [hw5]; exact HB4.out.set 4 (.slice a5 s.keep.length c5)
      have HN4 : Hid (New w3 (.slice a5 s.keep.length c5)) := New.own HO4.out
      have HR5 : Hid (RowS w5 (.slice a4 (iCells s.refs).length c4) (iCells s.refs) ∧ RowS w5 (.slice a5 s.keep.length c5) (boolCells s.keep)) := by
        have e3 : ∀ b off n c, (.slice a4 (iCells s.refs).length c4 : Value) = .slice (some ⟨b, off, none⟩) n c → b ≠ xb := HNR.out
        show _ ∧ _
        rw [hw5]
        refine ⟨(HR3.out.kept HG4.out).write xb 4 _ e3, ?_⟩
        exact (RowS.of_own (b := w3.heap.size) (e := 4) (by rw [length_boolCells]; exact HO4.out) (by rw [length_boolCells]; have := HL.out; omega)).write xb 4 _ (HN4.out.ne HX3.out)
      have HF5 : Hid (Fr (fun _ => False) wr w5) := by
        show Fr _ _ _
        rw [hw5]
        exact (HF3.out.trans HG4.out (fun _ _ h => h)).trans (Fr.one w4 xb 4 _) (fun k hk e => by have := HXB.out; omega)
      have HX5 : Hid (xb < w5.heap.size) := lt_of_block HB5.out
      have HNK : Hid (∀ b off n c, (.slice a5 s.keep.length c5 : Value) = .slice (some ⟨b, off, none⟩) n c → b ≠ xb) := HN4.out.ne HX3.out
      rw [← hw5]
      clear hw5 c4' f4' HB4 HO4 HG4 HB3 HR3 HF3 HX3 HK3 HKN HN4
      have c6' := HB5.out.cell 6
      have f6' := HB5.out.frozen 6
      simp only [List.getElem?_cons_zero, List.getElem?_cons_succ] at c6'
      have HD5 : Hid (RowS w5 (.slice a3 s.data.length c3) (byteCells s.data)) := (HS.out.kept HF5.out).data
      go_wp2_with fail
      refine (copyB_any a3 s.data.length c3 s.data w5 HD5.out HDB.out).mono ?_
      rintro e w6 ⟨rv, rfl, ho6, hf6⟩
      obtain ⟨a6, c6, rfl⟩ := own_slice ho6
      have HO6 : Hid (w6.ownsRow w5.heap.size 5 1 (.slice a6 s.data.length c6) s.data.length (byteCells s.data)) := ho6
      have HF6 : Hid (Fr (fun _ => False) w5 w6) := hf6
      have HB6 : Hid (Bk w6 xb [.int .i64 s.num, .int .i64 s.kind, .int .i64 s.page, .slice a4 (iCells s.refs).length c4, .slice a5 s.keep.length c5, .bool s.stay, .slice a3 s.data.length c3]) := HB5.out.kept hf6 (fun h => h)
      clear ho6 hf6 c6' f6'
      have c6' := HB6.out.cell 6
      have f6' := HB6.out.frozen 6
      simp only [List.getElem?_cons_zero, List.getElem?_cons_succ] at c6'
      go_upto_region 10 with (fail)
      obtain ⟨w7, hw7⟩ : ∃ w7, w7 = w6.setCell ⟨xb, 6, none⟩ (.slice a6 s.data.length c6) := ⟨_, rfl⟩
      have HB7 : Hid (Bk w7 xb [.int .i64 s.num, .int .i64 s.kind, .int .i64 s.page, .slice a4 (iCells s.refs).length c4, .slice a5 s.keep.length c5, .bool s.stay, .slice a6 s.data.length c6]) := by show Bk _ _ _; rw [hw7]; exact HB6.out.set 6 (.slice a6 s.data.length c6)
      have HS7 : Hid (SgAt w7 s (.slice a4 (iCells s.refs).length c4) (.slice a5 s.keep.length c5) (.slice a6 s.data.length c6)) := by
        have e3 := HNR.out
        have e4 := HNK.out
        have e5 : New w5 (.slice a6 s.data.length c6) := New.own HO6.out
        have hl := HDB.out
        show SgAt _ _ _ _ _
        rw [hw7]
        refine ⟨(HR5.out.1.kept HF6.out).write xb 6 _ e3, (HR5.out.2.kept HF6.out).write xb 6 _ e4, ?_⟩
        exact (RowS.of_own (b := w5.heap.size) (e := 5) (by rw [length_byteCells]; exact HO6.out) (by rw [length_byteCells]; omega)).write xb 6 _ (e5.ne HX5.out)
      have HF7 : Hid (Fr (fun _ => False) wr w7) := by
        show Fr _ _ _
        rw [hw7]
        exact (HF5.out.trans HF6.out (fun _ _ h => h)).trans (Fr.one w6 xb 6 _) (fun k hk e => by have := HXB.out; omega)
      rw [← hw7]
      clear hw7 c6' f6' HB6 HO6 HF6 HB5 HR5 HF5 HX5 HD5 HNK HNR
      have c0' := HB7.out.cell 0
      have c1' := HB7.out.cell 1
      have c2' := HB7.out.cell 2
      have c3' := HB7.out.cell 3
      have c4' := HB7.out.cell 4
      have c5' := HB7.out.cell 5
      have c6' := HB7.out.cell 6
      simp only [List.getElem?_cons_zero, List.getElem?_cons_succ] at c0' c1' c2' c3' c4' c5' c6'
      go_wp2_with fail
      refine ⟨Or.inr ⟨rfl, ((HF7.out.alloc _).alloc _).drew, _, _, _, _, _, rfl, HS7.out.kept (((Fr.refl _ w7).alloc _).alloc _).drew, fun j u hj => ?_⟩, by simp [intOf]⟩
      exact cell_two _ _ _ _ _ _ (by
        show (sgC s (.slice a4 (iCells s.refs).length c4) (.slice a5 s.keep.length c5) (.slice a6 s.data.length c6)).toArray[j]? = some u
        rw [List.getElem?_toArray]; exact hj)
    · have HP : Hid (CopP w s (.returned _) wr) := hP
      clear hP
      go_wp2_with fail
      go_ret
      exact HP.out
end Go.Proofs.YtamonbkhpbdojaaDoor

/- Segments' headers: the document's own 'Encode'. -/
namespace Go.Proofs.YtamonbkhpbdojaaDoor
set_option maxRecDepth 100000
open Go.RowKit

/-- The bytes so far, in a row of their own; the segment's block. -/
structure RE (n0 : Nat) (w wr : World) (C : List Value) (bv : Value) (L : List Nat) : Prop where
  fr : Fr (fun _ => False) w wr
  old : n0 = w.heap.size
  blk : Bk wr n0 C
  row : wr.ownsRow n0 5 1 bv L.length (byteCells L)
theorem RE.off {n0 : Nat} {w wr : World} {C : List Value} {bv : Value} {L : List Nat} (h : RE n0 w wr C bv L) : bv.ownBlock ≠ some n0 := row_off h.row h.blk (by decide)
theorem RE.below {n0 : Nat} {w wr w' : World} {C : List Value} {bv : Value} {L : List Nat} (h : RE n0 w wr C bv L) (b : Below wr.heap.size wr w') : RE n0 w w' C bv L :=
  ⟨h.fr.trans (Fr.of_below b _) (fun _ _ h => h), h.old, h.blk.kept (Fr.of_below b (fun _ => False)) (fun h => h), row_kept h.row (Fr.of_below b (fun _ => False)) (fun _ _ h => h)⟩
theorem RE.step {n0 : Nat} {w wr w' : World} {C : List Value} {bv : Value} {L : List Nat} (h : RE n0 w wr C bv L) (f : Fr (fun _ => False) wr w') : RE n0 w w' C bv L :=
  ⟨h.fr.trans f (fun _ _ h => h), h.old, h.blk.kept f (fun h => h), row_kept h.row f (fun _ _ h => h)⟩
theorem RE.app {n0 : Nat} {w wr w' : World} {C : List Value} {bv bv' : Value} {L M : List Nat} (h : RE n0 w wr C bv L) (g : wr.grownBy w' bv.ownBlock) (o : w'.ownsRow n0 5 1 bv' (L.length + M.length) (byteCells L ++ byteCells M)) : RE n0 w w' C bv' (L ++ M) := by
  have f : Fr (fun k => bv.ownBlock = some k) wr w' := (Fr.refl _ wr).grown g (fun k e _ => e)
  refine ⟨h.fr.trans f (fun k hk e => ?_), h.old, h.blk.kept f h.off, ?_⟩
  · have := (h.row.lt k e).1
    have := h.old
    omega
  · rw [List.length_append, byteCells_append]; exact o
theorem RE.slice {n0 : Nat} {w wr : World} {C : List Value} {bv : Value} {L : List Nat} (h : RE n0 w wr C bv L) : ∃ ao c, bv = .slice ao L.length c := own_slice h.row

/-- The same, and the writer of bits beside it. -/
structure REW (n0 : Nat) (w wr : World) (C : List Value) (bv : Value) (L : List Nat) (bf : Nat) (v : Value) (bs : List Bool) : Prop where
  re : RE n0 w wr C bv L
  fa : FAt wr bf v 67108864 bs
  bfn : n0 < bf
  vn : ∀ k, v.ownBlock = some k → n0 ≤ k
theorem REW.below {n0 bf : Nat} {w wr w' : World} {C : List Value} {bv v : Value} {L : List Nat} {bs : List Bool} (h : REW n0 w wr C bv L bf v bs) (b : Below wr.heap.size wr w') : REW n0 w w' C bv L bf v bs :=
  ⟨h.re.below b, h.fa.kept (Fr.of_below b (fun _ => False)) (fun h => h) (fun _ _ h => h), h.bfn, h.vn⟩
theorem REW.app {n0 bf : Nat} {w wr w' : World} {C : List Value} {bv bv' v : Value} {L M : List Nat} {bs : List Bool} (h : REW n0 w wr C bv L bf v bs) (g : wr.grownBy w' bv.ownBlock) (o : w'.ownsRow n0 5 1 bv' (L.length + M.length) (byteCells L ++ byteCells M)) : REW n0 w w' C bv' (L ++ M) bf v bs :=
  ⟨h.re.app g o, h.fa.kept ((Fr.refl _ wr).grown g (fun k e _ => e) : Fr (fun k => bv.ownBlock = some k) wr w') (row_off h.re.row h.fa.blk (by decide)) (fun k e e2 => row_apart h.fa.own h.re.row (by decide) k e e2), h.bfn, h.vn⟩
theorem REW.put {n0 bf : Nat} {w wr w' : World} {C : List Value} {bv v v' : Value} {L : List Nat} {bs bs' : List Bool} (h : REW n0 w wr C bv L bf v bs) (a : FAt w' bf v' 67108864 bs') (s : WStep bf v v' wr w') : REW n0 w w' C bv L bf v' bs' := by
  have e0 := h.re.old
  have e1 := h.bfn
  refine ⟨⟨h.re.fr.trans s.fr ?_, e0, h.re.blk.kept s.fr ?_, row_kept h.re.row s.fr ?_⟩, a, e1, ?_⟩
  · rintro i hi (e | e)
    · omega
    · have := h.vn i e; omega
  · rintro (e | e)
    · omega
    · exact row_off h.fa.own h.re.blk (by decide) e
  · rintro k hk (e | e)
    · exact row_off h.re.row h.fa.blk (by decide) (by rw [hk, e])
    · exact row_apart h.re.row h.fa.own (by decide) k hk e
  · intro k hk
    rcases s.row with e | e
    · exact h.vn k (by rw [← e]; exact hk)
    · have h1 := e k hk
      have h2 := h.re.fr.size
      omega
theorem REW.begin {n0 : Nat} {w wr : World} {C : List Value} {bv : Value} {L : List Nat} (h : RE n0 w wr C bv L) : REW n0 w (wr.alloc (.cells #[.int .i64 67108864, .slice none 0 0] 53)) C bv L wr.heap.size (.slice none 0 0) [] := by
  refine ⟨h.step ((Fr.refl _ wr).alloc _), ⟨?_, own_nil _ _ _, by simp, Nat.le_refl _⟩, lt_of_block h.blk, fun k e => by cases e⟩
  unfold World.alloc
  simp only [Array.getElem?_push_size]
  rfl
theorem gAll_take (l : List Nat) (k : Nat) (h : k < l.length) : gAll (l.take (k + 1)) = gAll (l.take k) ++ groups (l[k]?.getD 0) ∧ (gAll (l.take (k + 1))).length ≤ (gAll l).length := by
  refine ⟨?_, ?_⟩
  · rw [List.take_succ_eq_append_getElem h, List.getElem?_eq_getElem h]
    unfold gAll
    rw [List.flatMap_append]
    simp only [List.flatMap_cons, List.flatMap_nil, List.append_nil, Option.getD_some]
  · have e : gAll l = gAll (l.take (k + 1)) ++ gAll (l.drop (k + 1)) := by
      unfold gAll
      rw [← List.flatMap_append, List.take_append_drop]
    rw [e, List.length_append]; omega
theorem keep_take (l : List Bool) (k : Nat) (h : k < l.length) : l.take (k + 1) = l.take k ++ [l[k]?.getD false] := by
  rw [List.take_succ_eq_append_getElem h, List.getElem?_eq_getElem h]; rfl
theorem bit_any (b : Bool) (w : World) : Calls Tryd.prog 24 #[.bool b] w fun e w' => e = .returned (.int .u64 (b.toNat : Int)) ∧ w' = w := by
  cases b
  all_goals
    go_enter Tryd.func24, Tryd.ntmps24
    go_wp2_with fail
    go_ret
    exact ⟨rfl, rfl⟩
theorem cell_one (w : World) (k : Nat) (w' : World) (f : Fr (fun _ => False) (w.alloc (.cells #[.int .u8 (k : Int)] 5)) w') : 0 < 1 → ∃ ad, some (⟨w.heap.size, 0, none⟩ : Addr) = some ad ∧ ∀ j u, (byteCells [k])[j]? = some u → w'.cell? (ad.add j) = some u := by
  intro _
  refine ⟨_, rfl, fun j u hu => ?_⟩
  have hj : j = 0 := by
    rcases j with _ | j
    · rfl
    · simp [byteCells] at hu
  subst hj
  have e : (w.alloc (.cells #[.int .u8 (k : Int)] 5)).cell? ⟨w.heap.size, 0, none⟩ = some u := by
    have e2 : (w.alloc (.cells #[.int .u8 (k : Int)] 5)).heap[w.heap.size]? = some (.cells #[.int .u8 (k : Int)] 5 (0, 0)) := by unfold World.alloc; simp only [Array.getElem?_push_size]
    unfold World.cell?
    simp only [e2]
    exact hu
  exact f.cell e (fun h => h)
theorem bytes_news {w : World} {b m c : Nat} {ao : Option Addr} {M : List Nat} (h : BytesAt w b (.slice ao m c) M) (hl : M.length ≤ 131085) : M.length = m ∧ (0 < m → ∃ ad, ao = some ad ∧ ∀ j u, (byteCells M)[j]? = some u → w.cell? (ad.add j) = some u) := by
  have := (RowS.of_own (b := b) (e := 5) (by rw [length_byteCells]; exact h) (by rw [length_byteCells]; omega)).news
  rwa [length_byteCells] at this

set_option linter.unusedSimpArgs false in
set_option maxHeartbeats 8000000 in
theorem rheader_any (s : Seg) (D : List Nat) (vr vk vd : Value) (w : World) (h : SgAt w (ofSeg s D) vr vk vd) (ok : OkS s D.length) :
    Calls Tryd.prog 9 #[sgV (ofSeg s D) vr vk vd] w fun e w' => Fr (fun _ => False) w w' ∧ ∃ rv, e = .returned (.tuple #[rv, .int .i64 0]) ∧ BytesAt w' w.heap.size rv (hdrB s D.length) := by
  obtain ⟨i0, hi, hz0, hz1, hz2⟩ := info_parts Tryd.info5
  have HH : Hid (SgAt w (ofSeg s D) vr vk vd) := h
  have n1 := ok.num
  have n2 := Nat.le_trans ok.p2 (rHi_le _)
  have n3 := Nat.le_trans ok.many (mostN_le _ _)
  have n4 := Nat.le_trans ok.data (rData_le _)
  have n5 := ok.k2
  have n6 := ok.keep
  have HRI : Hid (∀ k, k < s.refs.length → s.refs[k]?.getD 0 ≤ 32767) := fun k hk => by
    rw [List.getElem?_eq_getElem hk]
    have := ris_le _ _ _ ok.rise _ (List.getElem_mem hk)
    simp only [Option.getD_some]; omega
  have HREF : Hid (∀ w', Fr (fun _ => False) w w' → ∀ ao c, vr = .slice ao s.refs.length c → s.refs.length ≠ 0 → ∃ b off, ao = some ⟨b, off, none⟩ ∧ ∀ j, j < s.refs.length → w'.cell? ⟨b, off + j, none⟩ = some (.int .i64 (s.refs[j]?.getD 0 : Nat))) := fun w' f ao c hv hz => by
    obtain ⟨ao', c', hv', _, hc⟩ := (h.refs.kept f)
    rw [hv'] at hv
    simp only [Value.slice.injEq] at hv
    obtain ⟨rfl, _, _⟩ := hv
    obtain ⟨b, off, e, hc⟩ := hc (ne_nil_i (fun e => hz (by simpa [ofSeg] using e)))
    refine ⟨b, off, e, fun j hj => ?_⟩
    rw [hc j (by rw [length_iCells]; simpa [ofSeg] using hj), iCells_get _ j (by simpa [ofSeg] using hj)]
    simp [ofSeg, hj]
  have HKEP : Hid (∀ w', Fr (fun _ => False) w w' → ∀ ao c, vk = .slice ao s.keep.length c → s.keep.length ≠ 0 → ∃ b off, ao = some ⟨b, off, none⟩ ∧ ∀ j, j < s.keep.length → w'.cell? ⟨b, off + j, none⟩ = some (.bool (s.keep[j]?.getD false))) := fun w' f ao c hv hz => by
    obtain ⟨ao', c', hv', _, hc⟩ := (h.keep.kept f)
    rw [hv'] at hv
    simp only [Value.slice.injEq] at hv
    obtain ⟨rfl, _, _⟩ := hv
    obtain ⟨b, off, e, hc⟩ := hc (ne_nil_b (fun e => hz (by rw [show s.keep = [] from e]; rfl)))
    refine ⟨b, off, e, fun j hj => ?_⟩
    rw [hc j (by rw [length_boolCells]; exact hj)]
    exact boolCells_get s.keep j hj
  have HMY : Hid (∀ w', Fr (fun _ => False) w w' → Calls Tryd.prog 11 #[sgV (ofSeg s D) vr vk vd] w' fun e w'' => e = .returned (.bool true) ∧ Fr (fun _ => False) w' w'') := fun w' f => by
    have := may_any (ofSeg s D) vr vk vd w' (h.kept f)
    rwa [ok_chk ok] at this
  have HHB : Hid (hdrB s D.length = ((((groups s.num ++ [s.kind]) ++ groups s.page) ++ groups s.refs.length) ++ gAll s.refs) ++ pack (s.keep ++ [s.stay]) ++ groups D.length) := by
    show _ = _; unfold hdrB; simp only [List.append_assoc]
  have HG : Hid ((groups s.num).length + 1 + (groups s.page).length + (groups s.refs.length).length + (gAll s.refs).length + (pack (s.keep ++ [s.stay])).length + (groups D.length).length ≤ 131085) := by
    have := hdr_len ok
    rw [HHB.out] at this
    simp only [List.length_append, List.length_cons, List.length_nil] at this
    show _ ≤ _
    omega
  obtain ⟨ao1, c1, rfl⟩ := h.refs.slice
  obtain ⟨ao2, c2, rfl⟩ := h.keep.slice
  obtain ⟨ao3, c3, rfl⟩ := h.data.slice
  clear h HH
  rw [length_iCells, length_boolCells, length_byteCells] at *
  simp only [sgV, ofSeg, List.length_map] at *
  have HOK : Hid (s.num ≤ 32767 ∧ s.kind ≤ 7 ∧ s.page ≤ 64 ∧ s.refs.length ≤ 32767 ∧ s.keep.length = s.refs.length ∧ D.length ≤ 67108864) := ⟨n1, n5, n2, by omega, n6, n4⟩
  have c1' : IntKind.u64.wrap (s.num : Int) = (s.num : Int) := by rw [IntKind.wrap_u64]; omega
  have c2' : IntKind.u8.wrap (s.kind : Int) = (s.kind : Int) := by rw [IntKind.wrap_u8]; omega
  have c3' : IntKind.u64.wrap (s.page : Int) = (s.page : Int) := by rw [IntKind.wrap_u64]; omega
  have c4' : IntKind.u64.wrap (s.refs.length : Int) = (s.refs.length : Int) := by rw [IntKind.wrap_u64]; omega
  have c5' : IntKind.u64.wrap (D.length : Int) = (D.length : Int) := by rw [IntKind.wrap_u64]; omega
  clear n1 n2 n3 n4 n5 n6 ok
  have HF1 : Hid (Fr (fun _ => False) w (w.alloc (.cells #[.int .i64 (s.num : Int), .int .i64 (s.kind : Int), .int .i64 (s.page : Int), .slice ao1 s.refs.length c1, .slice ao2 s.keep.length c2, .bool s.stay, .slice ao3 D.length c3] 27))) := (Fr.refl _ _).alloc _
  have HN1 : Hid (Bk (w.alloc (.cells #[.int .i64 (s.num : Int), .int .i64 (s.kind : Int), .int .i64 (s.page : Int), .slice ao1 s.refs.length c1, .slice ao2 s.keep.length c2, .bool s.stay, .slice ao3 D.length c3] 27)) w.heap.size [.int .i64 (s.num : Int), .int .i64 (s.kind : Int), .int .i64 (s.page : Int), .slice ao1 s.refs.length c1, .slice ao2 s.keep.length c2, .bool s.stay, .slice ao3 D.length c3]) := Bk.new w _
  go_enter Tryd.func9, Tryd.ntmps9
  go_upto_region 1 with (fail)
  generalize (w.alloc (.cells #[.int .i64 (s.num : Int), .int .i64 (s.kind : Int), .int .i64 (s.page : Int), .slice ao1 s.refs.length c1, .slice ao2 s.keep.length c2, .bool s.stay, .slice ao3 D.length c3] 27)) = w1 at *
  generalize hn0 : w.heap.size = n0 at *
  have HN0 : Hid (n0 = w.heap.size) := hn0.symm
  clear hn0
  have HC : Hid (∀ w', Bk w' n0 [.int .i64 (s.num : Int), .int .i64 (s.kind : Int), .int .i64 (s.page : Int), .slice ao1 s.refs.length c1, .slice ao2 s.keep.length c2, .bool s.stay, .slice ao3 D.length c3] → w'.cell? ⟨n0, 0, none⟩ = some (.int .i64 (s.num : Int)) ∧ w'.cell? ⟨n0, 1, none⟩ = some (.int .i64 (s.kind : Int)) ∧ w'.cell? ⟨n0, 2, none⟩ = some (.int .i64 (s.page : Int)) ∧ w'.cell? ⟨n0, 3, none⟩ = some (.slice ao1 s.refs.length c1) ∧ w'.cell? ⟨n0, 4, none⟩ = some (.slice ao2 s.keep.length c2) ∧ w'.cell? ⟨n0, 5, none⟩ = some (.bool s.stay) ∧ w'.cell? ⟨n0, 6, none⟩ = some (.slice ao3 D.length c3)) := fun w' y => ⟨y.cell 0, y.cell 1, y.cell 2, y.cell 3, y.cell 4, y.cell 5, y.cell 6⟩
  obtain ⟨q0, q1, q2, q3, q4, q5, q6⟩ := HC.out _ HN1.out
  go_wp2_with fail
  refine (HMY.out _ HF1.out).mono ?_
  rintro e w2 ⟨rfl, hf2⟩
  have HF2 : Hid (Fr (fun _ => False) w w2) := HF1.out.trans hf2 (fun _ _ h => h)
  have HB2 : Hid (Bk w2 n0 [.int .i64 (s.num : Int), .int .i64 (s.kind : Int), .int .i64 (s.page : Int), .slice ao1 s.refs.length c1, .slice ao2 s.keep.length c2, .bool s.stay, .slice ao3 D.length c3]) := HN1.out.kept hf2 (fun h => h)
  clear hf2 q0 q1 q2 q3 q4 q5 q6
  go_upto_region 3 with (fail)
  have HKS : Hid (∀ w', Fr (fun _ => False) w2 w' → (fun w' => w'.cell? ⟨n0, 0, none⟩ = some (.int .i64 (s.num : Int)) ∧ w'.cell? ⟨n0, 1, none⟩ = some (.int .i64 (s.kind : Int))) w') := fun w' f => ⟨(HC.out w' (HB2.out.kept f (fun h => h))).1, (HC.out w' (HB2.out.kept f (fun h => h))).2.1⟩
  have HGR : Hid (∀ w', Fr (fun _ => False) w2 w' → Calls Tryd.prog 22 #[.int .u64 (s.num : Int)] w' fun e w'' => ∃ rv, e = .returned rv ∧ BytesAt w'' n0 rv (groups s.num) ∧ Below w'.heap.size w' w'') := fun w' f => by
    refine (groups_any s.num w' (by have := HOK.out; omega)).mono ?_
    rintro e w'' ⟨rv, rfl, ho, hb⟩
    refine ⟨rv, rfl, ownsRow_base ho (fun k hk => ?_), hb⟩
    have h1 := (ho.lt k hk).1
    have h2 := f.size
    have h3 := HF2.out.size
    have h4 := HN0.out
    omega
  go_cut [4] from 10 to 19 (fun u4 wc => RE n0 w wc [.int .i64 (s.num : Int), .int .i64 (s.kind : Int), .int .i64 (s.page : Int), .slice ao1 s.refs.length c1, .slice ao2 s.keep.length c2, .bool s.stay, .slice ao3 D.length c3] u4 (groups s.num ++ [s.kind]))
  case first =>
    refine wp_region_held_drew (S := fun w' => w'.cell? ⟨n0, 0, none⟩ = some (.int .i64 (s.num : Int)) ∧ w'.cell? ⟨n0, 1, none⟩ = some (.int .i64 (s.kind : Int))) (by kernel_rfl) (HKS.out _ (Fr.refl _ _).drew) (fun hHeld => ?_)
    refine wpAnyH_take (i := 0) (oi := _) (v := ?vv0) rfl (by kernel_rfl) (by kernel_rfl) (by kernel_rfl) (fun _ _ _ h => h) (Or.inl ⟨by kernel_rfl, ?hy0⟩) (by assumption) ?_
    case hy0 => (intro w hSw; (try dsimp only at hSw); obtain ⟨s0, s1⟩ := hSw; go_simp; all_goals (with_reducible rfl))
    (try simp only [Act.put, List.setIfInBounds_toArray, List.set_cons_zero, List.set_cons_succ])
    refine wpAnyH_take (i := 1) (oi := _) (v := ?vv1) rfl (by kernel_rfl) (by kernel_rfl) (by kernel_rfl) (fun _ _ _ h => h) (Or.inl ⟨by kernel_rfl, ?hy1⟩) (by assumption) ?_
    case hy1 => (intro w hSw; (try dsimp only at hSw); obtain ⟨s0, s1⟩ := hSw; go_simp; all_goals (with_reducible rfl))
    (try simp only [Act.put, List.setIfInBounds_toArray, List.set_cons_zero, List.set_cons_succ])
    refine wpAnyH_take (i := 2) (oi := _) (v := ?vv2) rfl (by kernel_rfl) (by kernel_rfl) (by kernel_rfl) (fun _ _ _ h => h) (Or.inl ⟨by kernel_rfl, ?hy2⟩) (by assumption) ?_
    case hy2 => (intro w hSw; (try dsimp only at hSw); obtain ⟨s0, s1⟩ := hSw; go_simp; all_goals (with_reducible rfl))
    (try simp only [Act.put, List.setIfInBounds_toArray, List.set_cons_zero, List.set_cons_succ])
    refine wpAnyH_take (i := 4) (oi := _) (v := ?vv4) rfl (by kernel_rfl) (by kernel_rfl) (by kernel_rfl) (fun _ _ _ h => h) (Or.inl ⟨by kernel_rfl, ?hy4⟩) (by assumption) ?_
    case hy4 => (intro w hSw; (try dsimp only at hSw); obtain ⟨s0, s1⟩ := hSw; go_simp; all_goals (with_reducible rfl))
    (try simp only [Act.put, List.setIfInBounds_toArray, List.set_cons_zero, List.set_cons_succ])
    refine wpAnyH_take (i := 5) (oi := _) (v := ?vv5) rfl (by kernel_rfl) (by kernel_rfl) (by kernel_rfl) (fun _ _ _ h => h) (Or.inl ⟨by kernel_rfl, ?hy5⟩) (by assumption) ?_
    case hy5 => (intro w hSw; (try dsimp only at hSw); obtain ⟨s0, s1⟩ := hSw; go_simp; all_goals (with_reducible rfl))
    (try simp only [Act.put, List.setIfInBounds_toArray, List.set_cons_zero, List.set_cons_succ])
    refine wpAnyH_take (i := 6) (oi := _) (v := ?vv6) rfl (by kernel_rfl) (by kernel_rfl) (by kernel_rfl) (fun _ _ _ h => h) (Or.inl ⟨by kernel_rfl, ?hy6⟩) (by assumption) ?_
    case hy6 => (intro w hSw; (try dsimp only at hSw); obtain ⟨s0, s1⟩ := hSw; go_simp; all_goals (with_reducible rfl))
    (try simp only [Act.put, List.setIfInBounds_toArray, List.set_cons_zero, List.set_cons_succ])
    refine wpAnyH_ready (rs := [3, 7]) (by kernel_rfl) (by simp) ?_
    refine AllReadyH.cons (o := _) rfl (fun C hC => ?_) (AllReadyH.cons (o := _) rfl (fun C hC => ?_) AllReadyH.nil)
    · go_simp
      refine (HGR.out _ (Fr.refl _ _).drew).mono ?_
      rintro e w3 ⟨rv, rfl, ho3, hb3⟩
      have HO3 : Hid (BytesAt w3 n0 rv (groups s.num)) := ho3
      have HF3 : Hid (Fr (fun _ => False) w2 w3) := (Fr.refl _ w2).drew.trans (Fr.of_below hb3 _) (fun _ _ h => h)
      clear ho3 hb3
      go_simp
      refine hC.out _ _ (HKS.out _ HF3.out) (fun hHeld => ?_)
      clear hC C
      (try simp only [Act.put, List.setIfInBounds_toArray, List.set_cons_zero, List.set_cons_succ])
      refine wpAnyH_ready (rs := [7]) (by kernel_rfl) (by simp) ?_
      refine AllReadyH.cons (o := _) rfl (fun C hC => ?_) AllReadyH.nil
      go_simp
      have HF4 : Hid (Fr (fun _ => False) w2 (w3.alloc (.cells #[.int .u8 (s.kind : Int)] 5))) := HF3.out.alloc _
      have HO4 : Hid (BytesAt (w3.alloc (.cells #[.int .u8 (s.kind : Int)] 5)) n0 rv (groups s.num)) := row_kept HO3.out ((Fr.refl (fun _ => False) w3).alloc _) (fun _ _ h => h)
      have HE4 := (show Hid _ from cell_one w3 s.kind _ (Fr.refl _ _))
      refine hC.out _ _ (HKS.out _ HF4.out) (fun hHeld => ?_)
      clear hC C
      (try simp only [Act.put, List.setIfInBounds_toArray, List.set_cons_zero, List.set_cons_succ])
      refine wpAnyH_ready (rs := [8]) (by kernel_rfl) (by simp) ?_
      refine AllReadyH.cons (o := _) rfl (fun C hC => ?_) AllReadyH.nil
      refine step_append_any _ rfl (.tmp 13) (.tmp 17) 25 rfl n0 5 i0 (.int .u8 0) 1 1 Tryd.underlying25 hi hz0 hz1 hz2 rfl (by decide) rv (groups s.num).length (byteCells (groups s.num)) (by rfl) HO4.out _ 1 1 (byteCells [s.kind]) (by rfl) (by rfl) HE4.out (byteCells_one _) (by have := HG.out; unfold maxLen; omega) (by have := HG.out; omega) (by have h1 := HF4.out.size; have h2 := HF2.out.size; have h3 := HN0.out; omega) ?_
      intro v5 w5 ho5 hg5
      have HR5 : Hid (RE n0 w w5 [.int .i64 (s.num : Int), .int .i64 (s.kind : Int), .int .i64 (s.page : Int), .slice ao1 s.refs.length c1, .slice ao2 s.keep.length c2, .bool s.stay, .slice ao3 D.length c3] v5 (groups s.num ++ [s.kind])) := RE.app (L := groups s.num) (M := [s.kind]) ⟨HF2.out.trans HF4.out (fun _ _ h => h), HN0.out, HB2.out.kept HF4.out (fun h => h), HO4.out⟩ hg5 ho5
      clear ho5 hg5
      refine hC.out _ _ ⟨(HC.out _ HR5.out.blk).1, (HC.out _ HR5.out.blk).2.1⟩ (fun hHeld => ?_)
      clear hC C
      (try simp only [Act.put, List.setIfInBounds_toArray, List.set_cons_zero, List.set_cons_succ])
      refine wpAnyH_ready (rs := [9]) (by kernel_rfl) (by simp) ?_
      refine AllReadyH.cons (o := _) rfl (fun C hC => ?_) AllReadyH.nil
      go_simp
      refine hC.out _ _ hHeld (fun hHeld => ?_)
      refine wpAnyH_done (by kernel_rfl) ?_ _
      go_wp2_with fail
      go_meet
      go_light
      exact HR5.out
    · go_simp
      have HF3 : Hid (Fr (fun _ => False) w2 (w2.alloc (.cells #[.int .u8 (s.kind : Int)] 5)).drew) := ((Fr.refl _ w2).alloc _).drew
      have HE3 := (show Hid _ from cell_one w2 s.kind)
      refine hC.out _ _ (HKS.out _ HF3.out) (fun hHeld => ?_)
      clear hC C
      (try simp only [Act.put, List.setIfInBounds_toArray, List.set_cons_zero, List.set_cons_succ])
      refine wpAnyH_ready (rs := [3]) (by kernel_rfl) (by simp) ?_
      refine AllReadyH.cons (o := _) rfl (fun C hC => ?_) AllReadyH.nil
      go_simp
      refine (HGR.out _ HF3.out).mono ?_
      rintro e w3 ⟨rv, rfl, ho3, hb3⟩
      have HO4 : Hid (BytesAt w3 n0 rv (groups s.num)) := ho3
      have HF4 : Hid (Fr (fun _ => False) w2 w3) := HF3.out.trans (Fr.of_below hb3 _) (fun _ _ h => h)
      have HE4 := (show Hid _ from HE3.out _ (((Fr.refl _ _).drew).trans (Fr.of_below hb3 _) (fun _ _ h => h)))
      clear ho3 hb3
      go_simp
      refine hC.out _ _ (HKS.out _ HF4.out) (fun hHeld => ?_)
      clear hC C
      (try simp only [Act.put, List.setIfInBounds_toArray, List.set_cons_zero, List.set_cons_succ])
      refine wpAnyH_ready (rs := [8]) (by kernel_rfl) (by simp) ?_
      refine AllReadyH.cons (o := _) rfl (fun C hC => ?_) AllReadyH.nil
      refine step_append_any _ rfl (.tmp 13) (.tmp 17) 25 rfl n0 5 i0 (.int .u8 0) 1 1 Tryd.underlying25 hi hz0 hz1 hz2 rfl (by decide) rv (groups s.num).length (byteCells (groups s.num)) (by rfl) HO4.out _ 1 1 (byteCells [s.kind]) (by rfl) (by rfl) HE4.out (byteCells_one _) (by have := HG.out; unfold maxLen; omega) (by have := HG.out; omega) (by have h1 := HF4.out.size; have h2 := HF2.out.size; have h3 := HN0.out; omega) ?_
      intro v5 w5 ho5 hg5
      have HR5 : Hid (RE n0 w w5 [.int .i64 (s.num : Int), .int .i64 (s.kind : Int), .int .i64 (s.page : Int), .slice ao1 s.refs.length c1, .slice ao2 s.keep.length c2, .bool s.stay, .slice ao3 D.length c3] v5 (groups s.num ++ [s.kind])) := RE.app (L := groups s.num) (M := [s.kind]) ⟨HF2.out.trans HF4.out (fun _ _ h => h), HN0.out, HB2.out.kept HF4.out (fun h => h), HO4.out⟩ hg5 ho5
      clear ho5 hg5
      refine hC.out _ _ ⟨(HC.out _ HR5.out.blk).1, (HC.out _ HR5.out.blk).2.1⟩ (fun hHeld => ?_)
      clear hC C
      (try simp only [Act.put, List.setIfInBounds_toArray, List.set_cons_zero, List.set_cons_succ])
      refine wpAnyH_ready (rs := [9]) (by kernel_rfl) (by simp) ?_
      refine AllReadyH.cons (o := _) rfl (fun C hC => ?_) AllReadyH.nil
      go_simp
      refine hC.out _ _ hHeld (fun hHeld => ?_)
      refine wpAnyH_done (by kernel_rfl) ?_ _
      go_wp2_with fail
      go_meet
      go_light
      exact HR5.out
  case rest =>
    have HE3 := (show Hid _ from hcut)
    clear hcut HKS HGR HB2 HF2 HN1 HF1
    obtain ⟨L3, hL3⟩ : ∃ L, L = groups s.num ++ [s.kind] := ⟨_, rfl⟩
    have HL3 : Hid (L3 = groups s.num ++ [s.kind]) := hL3
    rw [← hL3] at HE3
    clear hL3
    obtain ⟨q0, q1, q2, q3, q4, q5, q6⟩ := HC.out _ HE3.out.blk
    go_wp2_with fail
    refine (groups_any s.page wc (by have := HOK.out; omega)).mono ?_
    rintro e w4 ⟨rv, rfl, ho, hb⟩
    obtain ⟨M4, hM4⟩ : ∃ M, M = groups s.page := ⟨_, rfl⟩
    have HM4 : Hid (M4 = groups s.page) := hM4
    rw [← hM4] at ho
    clear hM4
    obtain ⟨ag, cg, rfl⟩ := own_slice ho
    have HW4 := (show Hid _ from bytes_news ho (by rw [HM4.out]; have := HG.out; omega))
    have HE3b : Hid (RE n0 w w4 [.int .i64 (s.num : Int), .int .i64 (s.kind : Int), .int .i64 (s.page : Int), .slice ao1 s.refs.length c1, .slice ao2 s.keep.length c2, .bool s.stay, .slice ao3 D.length c3] _ L3) := HE3.out.below hb
    have HN4 := (show Hid _ from HE3b.out.fr.size)
    clear ho hb q0 q1 q2 q3 q4 q5 q6 HE3
    have hbd : L3.length + M4.length ≤ 131085 := by rw [HL3.out, List.length_append]; simp only [List.length_cons, List.length_nil]; rw [HM4.out]; have := HG.out; omega
    have HBD4 : Hid (L3.length + M4.length ≤ 131085) := hbd
    clear hbd
    go_wp2_with (first | (at_builtin; refine wpList_plain rfl fun K hK => wp_append_any _ (.tmp 19) (.tmp 23) 25 rfl n0 5 i0 (.int .u8 0) 1 1 Tryd.underlying25 hi hz0 hz1 hz2 rfl (by decide) _ L3.length (byteCells L3) rfl HE3b.out.row ag M4.length cg (byteCells M4) rfl (by rw [length_byteCells, Nat.mul_one]) HW4.out.2 (byteCells_one _) (by have := HBD4.out; unfold maxLen; omega) (by have := HBD4.out; omega) (by have h1 := HN4.out; have h2 := HN0.out; omega) ?_))
    intro v4 w5 ho hg
    have HE4 : Hid (RE n0 w w5 [.int .i64 (s.num : Int), .int .i64 (s.kind : Int), .int .i64 (s.page : Int), .slice ao1 s.refs.length c1, .slice ao2 s.keep.length c2, .bool s.stay, .slice ao3 D.length c3] v4 (L3 ++ M4)) := HE3b.out.app hg ho
    clear ho hg HE3b HBD4 HW4 HN4
    refine hK _ _ ?_
    clear hK K
    obtain ⟨L4, hL4⟩ : ∃ L, L = L3 ++ M4 := ⟨_, rfl⟩
    have HL4 : Hid (L4 = groups s.num ++ [s.kind] ++ groups s.page) := by show _ = _; rw [hL4, HL3.out, HM4.out]
    rw [← hL4] at HE4
    clear hL4 HL3 HM4
    obtain ⟨q0, q1, q2, q3, q4, q5, q6⟩ := HC.out _ HE4.out.blk
    go_wp2_with fail
    refine (groups_any s.refs.length w5 (by have := HOK.out; omega)).mono ?_
    rintro e w6 ⟨rv, rfl, ho, hb⟩
    obtain ⟨M5, hM5⟩ : ∃ M, M = groups s.refs.length := ⟨_, rfl⟩
    have HM5 : Hid (M5 = groups s.refs.length) := hM5
    rw [← hM5] at ho
    clear hM5
    obtain ⟨ag, cg, rfl⟩ := own_slice ho
    have HW5 := (show Hid _ from bytes_news ho (by rw [HM5.out]; have := HG.out; omega))
    have HE4b : Hid (RE n0 w w6 [.int .i64 (s.num : Int), .int .i64 (s.kind : Int), .int .i64 (s.page : Int), .slice ao1 s.refs.length c1, .slice ao2 s.keep.length c2, .bool s.stay, .slice ao3 D.length c3] _ L4) := HE4.out.below hb
    have HN5 := (show Hid _ from HE4b.out.fr.size)
    clear ho hb q0 q1 q2 q3 q4 q5 q6 HE4
    have hbd : L4.length + M5.length ≤ 131085 := by rw [HL4.out, List.length_append, List.length_append]; simp only [List.length_cons, List.length_nil]; rw [HM5.out]; have := HG.out; omega
    have HBD5 : Hid (L4.length + M5.length ≤ 131085) := hbd
    clear hbd
    go_wp2_with (first | (at_builtin; refine wpList_plain rfl fun K hK => wp_append_any _ (.tmp 25) (.tmp 30) 25 rfl n0 5 i0 (.int .u8 0) 1 1 Tryd.underlying25 hi hz0 hz1 hz2 rfl (by decide) _ L4.length (byteCells L4) rfl HE4b.out.row ag M5.length cg (byteCells M5) rfl (by rw [length_byteCells, Nat.mul_one]) HW5.out.2 (byteCells_one _) (by have := HBD5.out; unfold maxLen; omega) (by have := HBD5.out; omega) (by have h1 := HN5.out; have h2 := HN0.out; omega) ?_))
    intro v5 w7 ho hg
    have HE5 : Hid (RE n0 w w7 [.int .i64 (s.num : Int), .int .i64 (s.kind : Int), .int .i64 (s.page : Int), .slice ao1 s.refs.length c1, .slice ao2 s.keep.length c2, .bool s.stay, .slice ao3 D.length c3] v5 (L4 ++ M5)) := HE4b.out.app hg ho
    clear ho hg HE4b HBD5 HW5 HN5
    refine hK _ _ ?_
    clear hK K
    obtain ⟨L5, hL5⟩ : ∃ L, L = L4 ++ M5 := ⟨_, rfl⟩
    have HL5 : Hid (L5 = groups s.num ++ [s.kind] ++ groups s.page ++ groups s.refs.length) := by show _ = _; rw [hL5, HL4.out, HM5.out]
    rw [← hL5] at HE5
    clear hL5 HL4 HM5
    obtain ⟨q0, q1, q2, q3, q4, q5, q6⟩ := HC.out _ HE5.out.blk
    have HWB := (show Hid _ from REW.begin HE5.out)
    clear HE5
    go_wp2_with fail
    generalize (w7.alloc (.cells #[.int .i64 67108864, .slice none 0 0] 53)) = w8 at *
    generalize w7.heap.size = bf at *
    go_loopw [4, 6] (fun bv u wr => ∃ (k : Nat) (v : Value), k ≤ s.refs.length ∧ u = .int .i64 (k : Int) ∧ Hid (REW n0 w wr [.int .i64 (s.num : Int), .int .i64 (s.kind : Int), .int .i64 (s.page : Int), .slice ao1 s.refs.length c1, .slice ao2 s.keep.length c2, .bool s.stay, .slice ao3 D.length c3] bv (L5 ++ gAll (s.refs.take k)) bf v (s.keep.take k))) (fun _ u _ => (s.refs.length - (intOf u).toNat))
    case atStart => exact ⟨0, _, Nat.zero_le _, rfl, by show REW _ _ _ _ _ _ _ _ _; simpa [gAll] using HWB.out⟩
    case round =>
      obtain ⟨k, v, hk, rfl, HQ⟩ := hrel
      clear q0 q1 q2 q3 q4 q5 q6
      obtain ⟨q0, q1, q2, q3, q4, q5, q6⟩ := HC.out _ HQ.out.re.blk
      by_cases hlt : k < s.refs.length
      · obtain ⟨b, off, rfl, hc⟩ := HREF.out wr HQ.out.re.fr _ _ rfl (by omega)
        have e1 := hc k hlt
        have HX := (show Hid _ from HRI.out k hlt)
        have HGA : Hid (gAll (s.refs.take (k + 1)) = gAll (s.refs.take k) ++ groups (s.refs[k]?.getD 0) ∧ (gAll (s.refs.take (k + 1))).length ≤ (gAll s.refs).length) := gAll_take s.refs k hlt
        have HKA : Hid (s.keep.take (k + 1) = s.keep.take k ++ [s.keep[k]?.getD false]) := keep_take s.keep k (by have := HOK.out; omega)
        obtain ⟨b2, off2, rfl, hc2⟩ := HKEP.out wr HQ.out.re.fr _ _ rfl (by have := HOK.out; omega)
        have HKC : Hid (∀ w', Fr (fun _ => False) w w' → w'.cell? ⟨b2, off2 + k, none⟩ = some (.bool (s.keep[k]?.getD false))) := fun w' f => by
          obtain ⟨b3, off3, e3, hc3⟩ := HKEP.out w' f _ _ rfl (by have := HOK.out; omega)
          simp only [Option.some.injEq, Addr.mk.injEq] at e3
          obtain ⟨rfl, rfl, _⟩ := e3
          exact hc3 k (by have := HOK.out; omega)
        have HKL : Hid (k < s.keep.length) := by show _ < _; have := HOK.out; omega
        clear hc hc2
        generalize s.refs[k]?.getD 0 = x at *
        generalize s.keep[k]?.getD false = kb at *
        have hd : decide ((k : Int) < (s.refs.length : Int)) = true := decide_eq_true (by omega)
        have hwx : IntKind.u64.wrap (x : Int) = (x : Int) := by have := HX.out; rw [IntKind.wrap_u64]; omega
        have hwk : IntKind.i64.wrap ((k : Int) + 1) = (k : Int) + 1 := by have := HOK.out; rw [IntKind.wrap_i64]; omega
        obtain ⟨L6, hL6⟩ : ∃ L, L = L5 ++ gAll (s.refs.take k) := ⟨_, rfl⟩
        have HL6 : Hid (L6 = L5 ++ gAll (s.refs.take k)) := hL6
        rw [← hL6] at HQ
        clear hL6
        go_wp2_with fail
        refine (groups_any x wr (by have := HX.out; omega)).mono ?_
        rintro e wa ⟨rv, rfl, ho, hb⟩
        obtain ⟨M6, hM6⟩ : ∃ M, M = groups x := ⟨_, rfl⟩
        have HM6 : Hid (M6 = groups x) := hM6
        rw [← hM6] at ho
        clear hM6
        obtain ⟨ag, cg, rfl⟩ := own_slice ho
        have HBD6 : Hid (L6.length + M6.length ≤ 131085) := by
          show _ ≤ _
          rw [HM6.out]
          have h1 := HGA.out.2
          rw [HGA.out.1, List.length_append] at h1
          rw [HL6.out, HL5.out]
          have := HG.out
          simp only [List.length_append, List.length_cons, List.length_nil]
          omega
        have HW6 := (show Hid _ from bytes_news ho (by have := HBD6.out; omega))
        have HQb : Hid (REW n0 w wa _ _ L6 bf _ (s.keep.take k)) := HQ.out.below hb
        have HN6 := (show Hid _ from HQb.out.re.fr.size)
        clear ho hb q0 q1 q2 q3 q4 q5 q6 HQ
        go_wp2_with (first | (at_builtin; refine wpList_plain rfl fun K hK => wp_append_any _ (.tmp 41) (.tmp 48) 25 rfl n0 5 i0 (.int .u8 0) 1 1 Tryd.underlying25 hi hz0 hz1 hz2 rfl (by decide) _ L6.length (byteCells L6) rfl HQb.out.re.row ag M6.length cg (byteCells M6) rfl (by rw [length_byteCells, Nat.mul_one]) HW6.out.2 (byteCells_one _) (by have := HBD6.out; unfold maxLen; omega) (by have := HBD6.out; omega) (by have h1 := HN6.out; have h2 := HN0.out; omega) ?_))
        intro v6 wb ho hg
        have HQ6 : Hid (REW n0 w wb _ v6 (L6 ++ M6) bf _ (s.keep.take k)) := HQb.out.app hg ho
        clear ho hg HQb HBD6 HW6 HN6
        refine hK _ _ ?_
        clear hK K
        obtain ⟨q0, q1, q2, q3, q4, q5, q6⟩ := HC.out _ HQ6.out.re.blk
        have hkb := HKC.out _ HQ6.out.re.fr
        have hkl := HKL.out
        have hdk : decide ((k : Int) < (s.keep.length : Int)) = true := decide_eq_true (by omega)
        go_wp2_with fail
        refine (bit_any kb wb).mono ?_
        rintro e _ ⟨rfl, rfl⟩
        go_wp2_with fail
        refine (rput_fits' bf _ 67108864 (s.keep.take k) _ 1 kb.toNat 1 _ rfl rfl HQ6.out.fa (by omega) (by cases kb <;> decide) (by cases kb <;> decide) (by have := HOK.out; rw [List.length_take]; omega)).mono ?_
        rintro e wc2 ⟨rfl, vn, hat, hst⟩
        have h1 := HQ6.out.put hat hst
        rw [bit_of, ← HKA.out, HL6.out, HM6.out, List.append_assoc, ← HGA.out.1] at h1
        have HQ7 := (show Hid _ from h1)
        clear h1
        clear hat hst q0 q1 q2 q3 q4 q5 q6 hkb HQ6
        go_wp2_with fail
        go_roundw
        case rel => exact ⟨k + 1, _, by omega, rfl, HQ7.out⟩
        case measure => simp [intOf]; omega
      · have hke : k = s.refs.length := by omega
        subst hke
        have hd : decide ((s.refs.length : Int) < (s.refs.length : Int)) = false := decide_eq_false (by omega)
        obtain ⟨L6, hL6⟩ : ∃ L, L = L5 ++ gAll (s.refs.take s.refs.length) := ⟨_, rfl⟩
        have HL6 : Hid (L6 = L5 ++ gAll s.refs) := by show _ = _; rw [hL6, List.take_length]
        have ekp : s.keep.take s.refs.length = s.keep := by rw [← HOK.out.2.2.2.2.1, List.take_length]
        rw [← hL6, ekp] at HQ
        clear hL6 ekp hlt hk
        go_wp2_with fail
        refine (bit_any s.stay wr).mono ?_
        rintro e _ ⟨rfl, rfl⟩
        go_wp2_with fail
        refine (rput_fits' bf _ 67108864 s.keep _ 1 s.stay.toNat 1 _ rfl rfl HQ.out.fa (by omega) (by cases s.stay <;> decide) (by cases s.stay <;> decide) (by have := HOK.out; omega)).mono ?_
        rintro e wd ⟨rfl, vn, hat, hst⟩
        have h1 := HQ.out.put hat hst
        rw [bit_of] at h1
        have HQ8 := (show Hid _ from h1)
        clear hat hst h1 HQ q0 q1 q2 q3 q4 q5 q6
        obtain ⟨q0, q1, q2, q3, q4, q5, q6⟩ := HC.out _ HQ8.out.re.blk
        go_wp2_with fail
        refine (rbytes_any bf vn 67108864 (s.keep ++ [s.stay]) wd HQ8.out.fa).mono ?_
        rintro e we ⟨rv, rfl, ho, hb⟩
        obtain ⟨M9, hM9⟩ : ∃ M, M = pack (s.keep ++ [s.stay]) := ⟨_, rfl⟩
        have HM9 : Hid (M9 = pack (s.keep ++ [s.stay])) := hM9
        rw [← hM9] at ho
        clear hM9
        obtain ⟨ag, cg, rfl⟩ := own_slice ho
        have HBD9 : Hid (L6.length + M9.length ≤ 131085) := by
          show _ ≤ _
          rw [HM9.out]
          rw [HL6.out, HL5.out]
          have := HG.out
          simp only [List.length_append, List.length_cons, List.length_nil] at this ⊢
          omega
        have HW9 := (show Hid _ from bytes_news ho (by have := HBD9.out; omega))
        have HQ8b : Hid (REW n0 w we _ _ L6 bf _ (s.keep ++ [s.stay])) := HQ8.out.below hb
        have HN9 := (show Hid _ from HQ8b.out.re.fr.size)
        clear ho hb q0 q1 q2 q3 q4 q5 q6 HQ8
        go_wp2_with (first | (at_builtin; refine wpList_plain rfl fun K hK => wp_append_any _ (.tmp 63) (.tmp 65) 25 rfl n0 5 i0 (.int .u8 0) 1 1 Tryd.underlying25 hi hz0 hz1 hz2 rfl (by decide) _ L6.length (byteCells L6) rfl HQ8b.out.re.row ag M9.length cg (byteCells M9) rfl (by rw [length_byteCells, Nat.mul_one]) HW9.out.2 (byteCells_one _) (by have := HBD9.out; unfold maxLen; omega) (by have := HBD9.out; omega) (by have h1 := HN9.out; have h2 := HN0.out; omega) ?_))
        intro v9 wf ho hg
        have HQ9 : Hid (REW n0 w wf _ v9 (L6 ++ M9) bf _ (s.keep ++ [s.stay])) := HQ8b.out.app hg ho
        clear ho hg HQ8b HBD9 HW9 HN9
        refine hK _ _ ?_
        clear hK K
        obtain ⟨q0, q1, q2, q3, q4, q5, q6⟩ := HC.out _ HQ9.out.re.blk
        obtain ⟨L9, hL9⟩ : ∃ L, L = L6 ++ M9 := ⟨_, rfl⟩
        have HL9 : Hid (L9 = L6 ++ M9) := hL9
        rw [← hL9] at HQ9
        clear hL9
        go_wp2_with fail
        refine (groups_any D.length wf (by have := HOK.out; omega)).mono ?_
        rintro e wg ⟨rv, rfl, ho, hb⟩
        obtain ⟨M10, hM10⟩ : ∃ M, M = groups D.length := ⟨_, rfl⟩
        have HM10 : Hid (M10 = groups D.length) := hM10
        rw [← hM10] at ho
        clear hM10
        obtain ⟨ag, cg, rfl⟩ := own_slice ho
        have HBD10 : Hid (L9.length + M10.length ≤ 131085) := by
          show _ ≤ _
          rw [HM10.out]
          rw [HL9.out, HL6.out, HL5.out, HM9.out]
          have := HG.out
          simp only [List.length_append, List.length_cons, List.length_nil] at this ⊢
          omega
        have HW10 := (show Hid _ from bytes_news ho (by have := HBD10.out; omega))
        have HQ9b : Hid (REW n0 w wg _ _ L9 bf _ (s.keep ++ [s.stay])) := HQ9.out.below hb
        have HN10 := (show Hid _ from HQ9b.out.re.fr.size)
        clear ho hb q0 q1 q2 q3 q4 q5 q6 HQ9
        go_wp2_with (first | (at_builtin; refine wpList_plain rfl fun K hK => wp_append_any _ (.tmp 67) (.tmp 72) 25 rfl n0 5 i0 (.int .u8 0) 1 1 Tryd.underlying25 hi hz0 hz1 hz2 rfl (by decide) _ L9.length (byteCells L9) rfl HQ9b.out.re.row ag M10.length cg (byteCells M10) rfl (by rw [length_byteCells, Nat.mul_one]) HW10.out.2 (byteCells_one _) (by have := HBD10.out; unfold maxLen; omega) (by have := HBD10.out; omega) (by have h1 := HN10.out; have h2 := HN0.out; omega) ?_))
        intro v10 wh ho hg
        have HQ10 : Hid (REW n0 w wh _ v10 (L9 ++ M10) bf _ (s.keep ++ [s.stay])) := HQ9b.out.app hg ho
        clear ho hg HQ9b HBD10 HW10 HN10
        refine hK _ _ ?_
        clear hK K
        obtain ⟨q0, q1, q2, q3, q4, q5, q6⟩ := HC.out _ HQ10.out.re.blk
        have HFIN : Hid (L9 ++ M10 = hdrB s D.length) := by
          show _ = _
          rw [HHB.out, HL9.out, HL6.out, HL5.out, HM9.out, HM10.out]
        go_wp2_with fail
        go_ret2
        refine ⟨HQ10.out.re.fr, _, rfl, ?_⟩
        have h1 := HQ10.out.re.row
        rw [HFIN.out] at h1
        rw [← HN0.out]
        exact h1

theorem rencode_no (s : SgX) (vr vk vd : Value) (w : World) (h : SgAt w s vr vk vd) (hc : chk s = false) :
    Calls Tryd.prog 9 #[sgV s vr vk vd] w fun e w' => Fr (fun _ => False) w w' ∧ e = .returned (.tuple #[.slice none 0 0, .int .i64 161]) := by
  have HMY : Hid (∀ w', Fr (fun _ => False) w w' → Calls Tryd.prog 11 #[sgV s vr vk vd] w' fun e w'' => e = .returned (.bool false) ∧ Fr (fun _ => False) w' w'') := fun w' f => by
    have := may_any s vr vk vd w' (h.kept f)
    rwa [hc] at this
  obtain ⟨ao1, c1, rfl⟩ := h.refs.slice
  obtain ⟨ao2, c2, rfl⟩ := h.keep.slice
  obtain ⟨ao3, c3, rfl⟩ := h.data.slice
  rw [length_iCells, length_boolCells, length_byteCells] at *
  clear h hc
  simp only [sgV] at *
  have HF1 : Hid (∀ o, Fr (fun _ => False) w (w.alloc o)) := fun o => (Fr.refl _ _).alloc _
  go_enter Tryd.func9, Tryd.ntmps9
  go_wp2_with fail
  refine (HMY.out _ (HF1.out _)).mono ?_
  rintro e w2 ⟨rfl, hf2⟩
  have HF2 := (show Hid _ from (HF1.out _).trans hf2 (fun _ _ h => h))
  go_wp2_with fail
  go_ret2
  exact ⟨HF2.out, rfl⟩
theorem rencode_any (s : SgX) (vr vk vd : Value) (w : World) (h : SgAt w s vr vk vd) : Calls Tryd.prog 9 #[sgV s vr vk vd] w (EncP w s) := by
  cases hc : chk s with
  | false =>
    refine (rencode_no s vr vk vd w h hc).mono ?_
    rintro e w' ⟨hf, rfl⟩
    exact ⟨hf, Or.inr ⟨hc, rfl⟩⟩
  | true =>
    obtain ⟨e1, ok⟩ := chk_seg hc
    have := rheader_any (toSeg s) s.data vr vk vd w (by rw [e1]; exact h) ok
    rw [e1] at this
    refine this.mono ?_
    rintro e w' ⟨hf, rv, rfl, hb⟩
    exact ⟨hf, Or.inl ⟨hc, rv, rfl, hb⟩⟩
end Go.Proofs.YtamonbkhpbdojaaDoor

/- 'SegmentEncodes', by contracts. -/
namespace Go.Proofs.YtamonbkhpbdojaaDoor
set_option maxRecDepth 100000
open Go.RowKit

theorem CopP.cells {w w' : World} {s : SgX} {e : Ending} (h : CopP w s e w') : ∃ g cg a1 c1 a2 c2 a3 c3, e = .returned (.slice (some ⟨g, 0, none⟩) 1 cg) ∧ SgAt w' s (.slice a1 s.refs.length c1) (.slice a2 s.keep.length c2) (.slice a3 s.data.length c3) ∧
    w'.cell? ⟨g, 0, none⟩ = some (.int .i64 s.num) ∧ w'.cell? ⟨g, 1, none⟩ = some (.int .i64 s.kind) ∧ w'.cell? ⟨g, 2, none⟩ = some (.int .i64 s.page) ∧ w'.cell? ⟨g, 3, none⟩ = some (.slice a1 s.refs.length c1) ∧ w'.cell? ⟨g, 4, none⟩ = some (.slice a2 s.keep.length c2) ∧ w'.cell? ⟨g, 5, none⟩ = some (.bool s.stay) ∧ w'.cell? ⟨g, 6, none⟩ = some (.slice a3 s.data.length c3) := by
  obtain ⟨_, g, cg, vr, vk, vd, rfl, hs, hc⟩ := h
  obtain ⟨a1, c1, rfl⟩ := hs.refs.slice
  obtain ⟨a2, c2, rfl⟩ := hs.keep.slice
  obtain ⟨a3, c3, rfl⟩ := hs.data.slice
  rw [length_iCells, length_boolCells, length_byteCells] at *
  simp only [Nat.zero_add] at hc
  exact ⟨g, cg, a1, c1, a2, c2, a3, c3, rfl, hs, hc 0 _ rfl, hc 1 _ rfl, hc 2 _ rfl, hc 3 _ rfl, hc 4 _ rfl, hc 5 _ rfl, hc 6 _ rfl⟩

def encL (s : SgX) : List Nat := if chk s = true then hdrB (toSeg s) s.data.length else []
def encE (s : SgX) : Int := if chk s = true then 0 else 161
theorem encL_le (s : SgX) : (encL s).length ≤ 131085 := by
  unfold encL
  split
  · rename_i h
    exact hdr_len (chk_seg h).2
  · simp
theorem EncP.row {w w' : World} {s : SgX} {e : Ending} (h : EncP w s e w') : Fr (fun _ => False) w w' ∧ ∃ fo fc, e = .returned (.tuple #[.slice fo (encL s).length fc, .int .i64 (encE s)]) ∧ RowS w' (.slice fo (encL s).length fc) (byteCells (encL s)) := by
  have hl := encL_le s
  obtain ⟨hf, ⟨hc, rv, rfl, hb⟩ | ⟨hc, rfl⟩⟩ := h
  · have e1 : encL s = hdrB (toSeg s) s.data.length := by unfold encL; rw [if_pos hc]
    have e2 : encE s = 0 := by unfold encE; rw [if_pos hc]
    rw [← e1] at hb
    obtain ⟨fo, fc, rfl⟩ := own_slice hb
    exact ⟨hf, fo, fc, by rw [e2], RowS.of_own (b := w.heap.size) (e := 5) (by rw [length_byteCells]; exact hb) (by rw [length_byteCells]; omega)⟩
  · have e1 : encL s = [] := by unfold encL; rw [if_neg (by rw [hc]; decide)]
    have e2 : encE s = 161 := by unfold encE; rw [if_neg (by rw [hc]; decide)]
    rw [e1, e2]
    exact ⟨hf, none, 0, rfl, ⟨none, 0, rfl, by simp [byteCells], fun h => absurd rfl h⟩⟩

set_option linter.unusedSimpArgs false in
set_option maxHeartbeats 8000000 in
theorem encodes_any (ao : Option Addr) (n cap : Nat) (A : Nat → SgR) (w : World) (h : SgsAt w ao n A) (hk : ∀ j, j < n → (A j).s.keep.length ≤ 140737488351232) (hcap : n ≤ cap) (hr : RulesAt w) :
    Calls Tryd.prog 3 #[.slice ao n cap] w fun e w' => e = .returned (.bool true) ∧ Fr (fun _ => False) w w' := by
  have HRU : Hid (RulesAt w) := hr
  have hlen := h.len
  have HP : Hid (SgsAt w ao n A) := h
  have HKP : Hid (∀ j, j < n → (A j).s.keep.length ≤ 140737488351232) := hk
  have HWK : Hid (∀ w', Fr (fun _ => False) w w' → Calls Tryd.prog 14 #[] w' fun e w'' => e = .returned (.bool true) ∧ Fr (fun _ => False) w' w'') := fun w' f => wakes_any w' (HRU.out.kept f (fun h => h))
  clear h hr hk
  go_enter Tryd.func3, Tryd.ntmps3
  go_wp2_with fail
  go_loopw [3, 4, 5, 6, 7, 8] (fun i _ _ _ _ _ wr => ∃ (k : Nat), k ≤ n ∧ k ≤ 10 ∧ i = .int .i64 (k : Int) ∧ Hid (Fr (fun _ => False) w wr)) (fun i _ _ _ _ _ _ => (10 - (intOf i).toNat))
  case atStart => exact ⟨0, by omega, by omega, rfl, Fr.refl _ _⟩
  case round =>
    obtain ⟨k, hk, hk10, rfl, HFR⟩ := hrel
    by_cases hlt : k < n
    · have hd : decide ((k : Int) < (n : Int)) = true := decide_eq_true (by omega)
      by_cases hl10 : k < 10
      · have hd2 : decide ((k : Int) < 10) = true := decide_eq_true (by omega)
        obtain ⟨b, off, rfl, hc⟩ := HP.out.cells (by omega)
        have HC0 := (show Hid _ from hc k hlt)
        have HSA := (show Hid _ from HP.out.ok k hlt)
        have HKK := (show Hid _ from HKP.out k hlt)
        clear hc
        generalize A k = y at HC0 HSA HKK
        obtain ⟨s, vr, vk, vd⟩ := y
        try simp only at HC0 HSA HKK
        obtain ⟨a1, c1, rfl⟩ := HSA.out.refs.slice
        obtain ⟨a2, c2, rfl⟩ := HSA.out.keep.slice
        obtain ⟨a3, c3, rfl⟩ := HSA.out.data.slice
        rw [length_iCells, length_boolCells, length_byteCells] at *
        have HC : Hid (∀ w', Fr (fun _ => False) w w' → w'.cell? ⟨b, off + k * 7, none⟩ = some (.int .i64 s.num) ∧ w'.cell? ⟨b, off + k * 7 + 1, none⟩ = some (.int .i64 s.kind) ∧ w'.cell? ⟨b, off + k * 7 + 2, none⟩ = some (.int .i64 s.page) ∧ w'.cell? ⟨b, off + k * 7 + 3, none⟩ = some (.slice a1 s.refs.length c1) ∧ w'.cell? ⟨b, off + k * 7 + 4, none⟩ = some (.slice a2 s.keep.length c2) ∧ w'.cell? ⟨b, off + k * 7 + 5, none⟩ = some (.bool s.stay) ∧ w'.cell? ⟨b, off + k * 7 + 6, none⟩ = some (.slice a3 s.data.length c3)) := fun w' f => by
          obtain ⟨e0, e1, e2, e3, e4, e5, e6⟩ := HC0.out
          exact ⟨f.cell e0 (fun h => h), f.cell e1 (fun h => h), f.cell e2 (fun h => h), f.cell e3 (fun h => h), f.cell e4 (fun h => h), f.cell e5 (fun h => h), f.cell e6 (fun h => h)⟩
        clear HC0
        obtain ⟨q0, q1, q2, q3, q4, q5, q6⟩ := HC.out _ HFR.out
        by_cases hR : 5000 < s.refs.length
        · have hd3 : decide ((5000 : Int) < (s.refs.length : Int)) = true := decide_eq_true (by omega)
          go_wp2_with fail
          go_roundw
          case rel => exact ⟨k + 1, by omega, by omega, congrArg (Value.int .i64) (by omega), HFR.out⟩
          case measure => simp [intOf]; omega
        have hd3 : decide ((5000 : Int) < (s.refs.length : Int)) = false := decide_eq_false (by omega)
        by_cases hD : 100000 < s.data.length
        · have hd4 : decide ((100000 : Int) < (s.data.length : Int)) = true := decide_eq_true (by omega)
          go_wp2_with fail
          go_roundw
          case rel => exact ⟨k + 1, by omega, by omega, congrArg (Value.int .i64) (by omega), HFR.out⟩
          case measure => simp [intOf]; omega
        have hd4 : decide ((100000 : Int) < (s.data.length : Int)) = false := decide_eq_false (by omega)
        have HRD : Hid (s.refs.length ≤ 5000 ∧ s.data.length ≤ 100000) := ⟨by omega, by omega⟩
        clear hR hD
        have HCP : Hid (∀ cp, Calls Tryd.prog 7 #[.slice (some ⟨b, off + k * 7, none⟩) 1 cp] wr (CopP wr s)) := fun cp => copyOne b (off + k * 7) cp s a1 c1 a2 c2 a3 c3 wr (HSA.out.kept HFR.out) (by have := HRD.out; omega) (HC.out _ HFR.out) HRD.out.1 HKK.out
        have hk1 : (k : Int) + 1 ≤ (cap : Int) := by omega
        have hwk : IntKind.i64.wrap ((k : Int) + 1) = (k : Int) + 1 := by rw [IntKind.wrap_i64]; omega
        go_wp2_with fail
        refine (HCP.out _).mono ?_
        rintro e w2 hcp
        have HF2 : Hid (Fr (fun _ => False) w w2) := HFR.out.trans hcp.1 (fun _ _ h => h)
        obtain ⟨g, cg, d1, d1c, d2, d2c, d3, d3c, rfl, hs2, p0, p1, p2, p3, p4, p5, p6⟩ := hcp.cells
        have HS2 : Hid (SgAt w2 s (.slice d1 s.refs.length d1c) (.slice d2 s.keep.length d2c) (.slice d3 s.data.length d3c)) := hs2
        clear hcp hs2 q0 q1 q2 q3 q4 q5 q6 HCP
        go_upto_region 6 with (fail)
        have HF3 : Hid (Fr (fun _ => False) w (w2.alloc (.cells #[.int .i64 s.num, .int .i64 s.kind, .int .i64 s.page, .slice d1 s.refs.length d1c, .slice d2 s.keep.length d2c, .bool s.stay, .slice d3 s.data.length d3c] 27))) := HF2.out.alloc _
        have HB3 : Hid (Bk (w2.alloc (.cells #[.int .i64 s.num, .int .i64 s.kind, .int .i64 s.page, .slice d1 s.refs.length d1c, .slice d2 s.keep.length d2c, .bool s.stay, .slice d3 s.data.length d3c] 27)) w2.heap.size [.int .i64 s.num, .int .i64 s.kind, .int .i64 s.page, .slice d1 s.refs.length d1c, .slice d2 s.keep.length d2c, .bool s.stay, .slice d3 s.data.length d3c]) := Bk.new w2 _
        have HS3 : Hid (SgAt (w2.alloc (.cells #[.int .i64 s.num, .int .i64 s.kind, .int .i64 s.page, .slice d1 s.refs.length d1c, .slice d2 s.keep.length d2c, .bool s.stay, .slice d3 s.data.length d3c] 27)) s (.slice d1 s.refs.length d1c) (.slice d2 s.keep.length d2c) (.slice d3 s.data.length d3c)) := HS2.out.kept ((Fr.refl _ w2).alloc _)
        clear p0 p1 p2 p3 p4 p5 p6 HS2 HF2
        generalize (w2.alloc (.cells #[.int .i64 s.num, .int .i64 s.kind, .int .i64 s.page, .slice d1 s.refs.length d1c, .slice d2 s.keep.length d2c, .bool s.stay, .slice d3 s.data.length d3c] 27)) = w3 at *
        generalize w2.heap.size = xb at *
        have HCX : Hid (∀ w', Fr (fun _ => False) w3 w' → w'.cell? ⟨xb, 0, none⟩ = some (.int .i64 s.num) ∧ w'.cell? ⟨xb, 1, none⟩ = some (.int .i64 s.kind) ∧ w'.cell? ⟨xb, 2, none⟩ = some (.int .i64 s.page) ∧ w'.cell? ⟨xb, 3, none⟩ = some (.slice d1 s.refs.length d1c) ∧ w'.cell? ⟨xb, 4, none⟩ = some (.slice d2 s.keep.length d2c) ∧ w'.cell? ⟨xb, 5, none⟩ = some (.bool s.stay) ∧ w'.cell? ⟨xb, 6, none⟩ = some (.slice d3 s.data.length d3c)) := fun w' f => by
          have y := HB3.out.kept f (fun h => h)
          exact ⟨y.cell 0, y.cell 1, y.cell 2, y.cell 3, y.cell 4, y.cell 5, y.cell 6⟩
        obtain ⟨p0, p1, p2, p3, p4, p5, p6⟩ := HCX.out _ (Fr.refl _ _)
        have HEN : Hid (Calls Tryd.prog 8 #[.agg #[.int .i64 s.num, .int .i64 s.kind, .int .i64 s.page, .slice d1 s.refs.length d1c, .slice d2 s.keep.length d2c, .bool s.stay, .slice d3 s.data.length d3c]] w3 (EncP w3 s)) := encode_any s _ _ _ w3 HS3.out (HRU.out.kept HF3.out (fun h => h))
        go_wp2_with fail
        refine HEN.out.mono ?_
        rintro e w4 hen
        obtain ⟨hf4, fo, fc, rfl, hr4⟩ := hen.row
        clear hen HEN p0 p1 p2 p3 p4 p5 p6
        have HF4 : Hid (Fr (fun _ => False) w3 w4) := hf4
        have HR4 : Hid (RowS w4 (.slice fo (encL s).length fc) (byteCells (encL s))) := hr4
        clear hf4 hr4
        have HEN : Hid (Calls Tryd.prog 9 #[.agg #[.int .i64 s.num, .int .i64 s.kind, .int .i64 s.page, .slice a1 s.refs.length c1, .slice a2 s.keep.length c2, .bool s.stay, .slice a3 s.data.length c3]] w4 (EncP w4 s)) := rencode_any s _ _ _ w4 (HSA.out.kept (HF3.out.trans HF4.out (fun _ _ h => h)))
        obtain ⟨q0, q1, q2, q3, q4, q5, q6⟩ := HC.out _ (HF3.out.trans HF4.out (fun _ _ h => h))
        go_wp2_with fail
        refine HEN.out.mono ?_
        rintro e w5 hen
        obtain ⟨hf5, ho, hc, rfl, hr5⟩ := hen.row
        clear hen HEN q0 q1 q2 q3 q4 q5 q6
        have HF5 : Hid (Fr (fun _ => False) w3 w5) := HF4.out.trans hf5 (fun _ _ h => h)
        have HR5 : Hid (RowS w5 (.slice fo (encL s).length fc) (byteCells (encL s)) ∧ RowS w5 (.slice ho (encL s).length hc) (byteCells (encL s))) := ⟨HR4.out.kept hf5, hr5⟩
        clear hf5 hr5 HR4 HF4
        have HKS : Hid (∀ w', Fr (fun _ => False) w5 w' → (fun w' => w'.cell? ⟨xb, 0, none⟩ = some (.int .i64 s.num) ∧ w'.cell? ⟨xb, 1, none⟩ = some (.int .i64 s.kind) ∧ w'.cell? ⟨xb, 2, none⟩ = some (.int .i64 s.page) ∧ w'.cell? ⟨xb, 3, none⟩ = some (.slice d1 s.refs.length d1c) ∧ w'.cell? ⟨xb, 4, none⟩ = some (.slice d2 s.keep.length d2c) ∧ w'.cell? ⟨xb, 5, none⟩ = some (.bool s.stay) ∧ w'.cell? ⟨xb, 6, none⟩ = some (.slice d3 s.data.length d3c) ∧ w'.cell? ⟨b, off + k * 7, none⟩ = some (.int .i64 s.num) ∧ w'.cell? ⟨b, off + k * 7 + 1, none⟩ = some (.int .i64 s.kind) ∧ w'.cell? ⟨b, off + k * 7 + 2, none⟩ = some (.int .i64 s.page) ∧ w'.cell? ⟨b, off + k * 7 + 3, none⟩ = some (.slice a1 s.refs.length c1) ∧ w'.cell? ⟨b, off + k * 7 + 4, none⟩ = some (.slice a2 s.keep.length c2) ∧ w'.cell? ⟨b, off + k * 7 + 5, none⟩ = some (.bool s.stay) ∧ w'.cell? ⟨b, off + k * 7 + 6, none⟩ = some (.slice a3 s.data.length c3)) w') := fun w' f => by
          have f2 := HF5.out.trans f (fun _ _ h => h)
          obtain ⟨e0, e1, e2, e3, e4, e5, e6⟩ := HCX.out _ f2
          exact ⟨e0, e1, e2, e3, e4, e5, e6, HC.out _ (HF3.out.trans f2 (fun _ _ h => h))⟩
        have HCK : Hid (∀ w', Fr (fun _ => False) w5 w' → Calls Tryd.prog 10 #[.agg #[.int .i64 s.num, .int .i64 s.kind, .int .i64 s.page, .slice d1 s.refs.length d1c, .slice d2 s.keep.length d2c, .bool s.stay, .slice d3 s.data.length d3c]] w' fun e w'' => e = .returned (.bool (chk s)) ∧ Fr (fun _ => False) w' w'') := fun w' f => check_any s _ _ _ w' (HS3.out.kept (HF5.out.trans f (fun _ _ h => h))) (HRU.out.kept (HF3.out.trans (HF5.out.trans f (fun _ _ h => h)) (fun _ _ h => h)) (fun h => h))
        have HMY : Hid (∀ w', Fr (fun _ => False) w5 w' → Calls Tryd.prog 11 #[.agg #[.int .i64 s.num, .int .i64 s.kind, .int .i64 s.page, .slice a1 s.refs.length c1, .slice a2 s.keep.length c2, .bool s.stay, .slice a3 s.data.length c3]] w' fun e w'' => e = .returned (.bool (chk s)) ∧ Fr (fun _ => False) w' w'') := fun w' f => may_any s _ _ _ w' (HSA.out.kept (HF3.out.trans (HF5.out.trans f (fun _ _ h => h)) (fun _ _ h => h)))
        have HEQ : Hid (∀ w', Fr (fun _ => False) w5 w' → Calls Tryd.prog 12 #[.slice fo (encL s).length fc, .slice ho (encL s).length hc] w' fun e w'' => e = .returned (.bool true) ∧ Fr (fun _ => False) w' w'') := fun w' f => by
          have hl : (encL s).length ≤ 140737488355328 := Nat.le_trans (encL_le s) (by omega)
          refine (eq_same _ _ (encL s) (encL s) w' ((HR5.out.1.kept f).seen hl) ((HR5.out.2.kept f).seen hl) rfl true (by show _ = _; simp)).mono ?_
          rintro e w'' ⟨rfl, q, rfl⟩
          exact ⟨rfl, (Fr.refl _ _).drewN q⟩
        have HES : Hid (∀ w', Fr (fun _ => False) w5 w' → Calls Tryd.prog 13 #[.agg #[.int .i64 s.num, .int .i64 s.kind, .int .i64 s.page, .slice d1 s.refs.length d1c, .slice d2 s.keep.length d2c, .bool s.stay, .slice d3 s.data.length d3c], .agg #[.int .i64 s.num, .int .i64 s.kind, .int .i64 s.page, .slice a1 s.refs.length c1, .slice a2 s.keep.length c2, .bool s.stay, .slice a3 s.data.length c3]] w' fun e w'' => e = .returned (.bool true) ∧ Fr (fun _ => False) w' w'') := fun w' f => eqSegment_same s _ _ _ _ _ _ w' (HS3.out.kept (HF5.out.trans f (fun _ _ h => h))) (HSA.out.kept (HF3.out.trans (HF5.out.trans f (fun _ _ h => h)) (fun _ _ h => h))) (by have := HRD.out; omega)
        have HFX : Hid (∀ w', Fr (fun _ => False) w5 w' → Fr (fun _ => False) w w') := fun w' f => HF3.out.trans (HF5.out.trans f (fun _ _ h => h)) (fun _ _ h => h)
        have t1 : (chk s != chk s) = false := by simp
        have t2 : (encE s != encE s) = false := by simp
        generalize (encL s).length = m at *
        generalize encE s = eN at *
        generalize chk s = cb at *
        go_upto_region 8 with (fail)
        refine wp_region_held_drew (S := fun w' => w'.cell? ⟨xb, 0, none⟩ = some (.int .i64 s.num) ∧ w'.cell? ⟨xb, 1, none⟩ = some (.int .i64 s.kind) ∧ w'.cell? ⟨xb, 2, none⟩ = some (.int .i64 s.page) ∧ w'.cell? ⟨xb, 3, none⟩ = some (.slice d1 s.refs.length d1c) ∧ w'.cell? ⟨xb, 4, none⟩ = some (.slice d2 s.keep.length d2c) ∧ w'.cell? ⟨xb, 5, none⟩ = some (.bool s.stay) ∧ w'.cell? ⟨xb, 6, none⟩ = some (.slice d3 s.data.length d3c) ∧ w'.cell? ⟨b, off + k * 7, none⟩ = some (.int .i64 s.num) ∧ w'.cell? ⟨b, off + k * 7 + 1, none⟩ = some (.int .i64 s.kind) ∧ w'.cell? ⟨b, off + k * 7 + 2, none⟩ = some (.int .i64 s.page) ∧ w'.cell? ⟨b, off + k * 7 + 3, none⟩ = some (.slice a1 s.refs.length c1) ∧ w'.cell? ⟨b, off + k * 7 + 4, none⟩ = some (.slice a2 s.keep.length c2) ∧ w'.cell? ⟨b, off + k * 7 + 5, none⟩ = some (.bool s.stay) ∧ w'.cell? ⟨b, off + k * 7 + 6, none⟩ = some (.slice a3 s.data.length c3)) (by kernel_rfl) (HKS.out _ (Fr.refl _ _).drew) (fun hHeld => ?_)
        refine wpAnyH_take (i := 0) (oi := _) (v := ?vv1) rfl (by kernel_rfl) (by kernel_rfl) (by kernel_rfl) (fun _ _ _ h => h) (Or.inl ⟨by kernel_rfl, ?hy1⟩) (by assumption) ?_
        case hy1 => (intro w hSw; (try dsimp only at hSw); obtain ⟨s0, s1, s2, s3, s4, s5, s6, s7, s8, s9, s10, s11, s12, s13⟩ := hSw; go_simp; all_goals (with_reducible rfl))
        (try simp only [Act.put, List.setIfInBounds_toArray, List.set_cons_zero, List.set_cons_succ])
        refine wpAnyH_take (i := 2) (oi := _) (v := ?vv2) rfl (by kernel_rfl) (by kernel_rfl) (by kernel_rfl) (fun _ _ _ h => h) (Or.inl ⟨by kernel_rfl, ?hy2⟩) (by assumption) ?_
        case hy2 => (intro w hSw; (try dsimp only at hSw); obtain ⟨s0, s1, s2, s3, s4, s5, s6, s7, s8, s9, s10, s11, s12, s13⟩ := hSw; go_simp; all_goals (with_reducible rfl))
        (try simp only [Act.put, List.setIfInBounds_toArray, List.set_cons_zero, List.set_cons_succ])
        refine wpAnyH_take (i := 3) (oi := _) (v := ?vv3) rfl (by kernel_rfl) (by kernel_rfl) (by kernel_rfl) (fun _ _ _ h => h) (Or.inl ⟨by kernel_rfl, ?hy3⟩) (by assumption) ?_
        case hy3 => (intro w hSw; (try dsimp only at hSw); obtain ⟨s0, s1, s2, s3, s4, s5, s6, s7, s8, s9, s10, s11, s12, s13⟩ := hSw; go_simp; all_goals (with_reducible rfl))
        (try simp only [Act.put, List.setIfInBounds_toArray, List.set_cons_zero, List.set_cons_succ])
        refine wpAnyH_take (i := 4) (oi := _) (v := ?vv4) rfl (by kernel_rfl) (by kernel_rfl) (by kernel_rfl) (fun _ _ _ h => h) (Or.inl ⟨by kernel_rfl, ?hy4⟩) (by assumption) ?_
        case hy4 => (intro w hSw; (try dsimp only at hSw); obtain ⟨s0, s1, s2, s3, s4, s5, s6, s7, s8, s9, s10, s11, s12, s13⟩ := hSw; go_simp; all_goals (with_reducible rfl))
        (try simp only [Act.put, List.setIfInBounds_toArray, List.set_cons_zero, List.set_cons_succ])
        refine wpAnyH_take (i := 5) (oi := _) (v := ?vv5) rfl (by kernel_rfl) (by kernel_rfl) (by kernel_rfl) (fun _ _ _ h => h) (Or.inl ⟨by kernel_rfl, ?hy5⟩) (by assumption) ?_
        case hy5 => (intro w hSw; (try dsimp only at hSw); obtain ⟨s0, s1, s2, s3, s4, s5, s6, s7, s8, s9, s10, s11, s12, s13⟩ := hSw; go_simp; all_goals (with_reducible rfl))
        (try simp only [Act.put, List.setIfInBounds_toArray, List.set_cons_zero, List.set_cons_succ])
        refine wpAnyH_ready (rs := [1]) (by kernel_rfl) (by simp) ?_
        refine AllReadyH.cons (o := _) rfl (fun C hC => ?_) AllReadyH.nil
        go_simp
        refine (HCK.out _ ((Fr.refl _ _).drew)).mono ?_
        rintro e wa ⟨rfl, hf⟩
        have HG1 : Hid (Fr (fun _ => False) w5 wa) := Fr.trans ((Fr.refl _ _).drew) hf (fun _ _ h => h)
        clear hf
        go_simp
        refine hC.out _ _ (HKS.out _ HG1.out) (fun hHeld => ?_)
        clear hC C
        (try simp only [Act.put, List.setIfInBounds_toArray, List.set_cons_zero, List.set_cons_succ])
        refine wpAnyH_ready (rs := [6]) (by kernel_rfl) (by simp) ?_
        refine AllReadyH.cons (o := _) rfl (fun C hC => ?_) AllReadyH.nil
        go_simp
        refine (HMY.out _ HG1.out).mono ?_
        rintro e wb ⟨rfl, hf⟩
        have HG2 : Hid (Fr (fun _ => False) w5 wb) := Fr.trans HG1.out hf (fun _ _ h => h)
        clear hf
        go_simp
        refine hC.out _ _ (HKS.out _ HG2.out) (fun hHeld => ?_)
        clear hC C
        (try simp only [Act.put, List.setIfInBounds_toArray, List.set_cons_zero, List.set_cons_succ])
        refine wpAnyH_take (i := 7) (oi := _) (v := ?vv6) rfl (by kernel_rfl) (by kernel_rfl) (by kernel_rfl) (fun _ _ _ h => h) (Or.inl ⟨by kernel_rfl, ?hy6⟩) (by assumption) ?_
        case hy6 => (intro w hSw; (try dsimp only at hSw); obtain ⟨s0, s1, s2, s3, s4, s5, s6, s7, s8, s9, s10, s11, s12, s13⟩ := hSw; go_simp; all_goals (with_reducible rfl))
        (try simp only [Act.put, List.setIfInBounds_toArray, List.set_cons_zero, List.set_cons_succ])
        refine wpAnyH_take (i := 8) (oi := _) (v := ?vv7) rfl (by kernel_rfl) (by kernel_rfl) (by kernel_rfl) (fun _ _ _ h => h) (Or.inl ⟨by kernel_rfl, ?hy7⟩) (by assumption) ?_
        case hy7 => (intro w hSw; (try dsimp only at hSw); obtain ⟨s0, s1, s2, s3, s4, s5, s6, s7, s8, s9, s10, s11, s12, s13⟩ := hSw; go_simp; all_goals (with_reducible rfl))
        (try simp only [Act.put, List.setIfInBounds_toArray, List.set_cons_zero, List.set_cons_succ])
        refine wpAnyH_take (i := 9) (oi := _) (v := ?vv8) rfl (by kernel_rfl) (by kernel_rfl) (by kernel_rfl) (fun _ _ _ h => h) (Or.inl ⟨by kernel_rfl, ?hy8⟩) (by assumption) ?_
        case hy8 => (intro w hSw; (try dsimp only at hSw); obtain ⟨s0, s1, s2, s3, s4, s5, s6, s7, s8, s9, s10, s11, s12, s13⟩ := hSw; go_simp; all_goals (with_reducible rfl))
        (try simp only [Act.put, List.setIfInBounds_toArray, List.set_cons_zero, List.set_cons_succ])
        refine wpAnyH_take (i := 10) (oi := _) (v := ?vv9) rfl (by kernel_rfl) (by kernel_rfl) (by kernel_rfl) (fun _ _ _ h => h) (Or.inl ⟨by kernel_rfl, ?hy9⟩) (by assumption) ?_
        case hy9 => (intro w hSw; (try dsimp only at hSw); obtain ⟨s0, s1, s2, s3, s4, s5, s6, s7, s8, s9, s10, s11, s12, s13⟩ := hSw; go_simp; all_goals (with_reducible rfl))
        (try simp only [Act.put, List.setIfInBounds_toArray, List.set_cons_zero, List.set_cons_succ])
        refine wpAnyH_take (i := 11) (oi := _) (v := ?vv10) rfl (by kernel_rfl) (by kernel_rfl) (by kernel_rfl) (fun _ _ _ h => h) (Or.inl ⟨by kernel_rfl, ?hy10⟩) (by assumption) ?_
        case hy10 => (intro w hSw; (try dsimp only at hSw); obtain ⟨s0, s1, s2, s3, s4, s5, s6, s7, s8, s9, s10, s11, s12, s13⟩ := hSw; go_simp; all_goals (with_reducible rfl))
        (try simp only [Act.put, List.setIfInBounds_toArray, List.set_cons_zero, List.set_cons_succ])
        refine wpAnyH_take (i := 12) (oi := _) (v := ?vv11) rfl (by kernel_rfl) (by kernel_rfl) (by kernel_rfl) (fun _ _ _ h => h) (Or.inl ⟨by kernel_rfl, ?hy11⟩) (by assumption) ?_
        case hy11 => (intro w hSw; (try dsimp only at hSw); obtain ⟨s0, s1, s2, s3, s4, s5, s6, s7, s8, s9, s10, s11, s12, s13⟩ := hSw; go_simp; all_goals (with_reducible rfl))
        (try simp only [Act.put, List.setIfInBounds_toArray, List.set_cons_zero, List.set_cons_succ])
        refine wpAnyH_take (i := 13) (oi := _) (v := ?vv12) rfl (by kernel_rfl) (by kernel_rfl) (by kernel_rfl) (fun _ _ _ h => h) (Or.inl ⟨by kernel_rfl, ?hy12⟩) (by assumption) ?_
        case hy12 => (intro w hSw; (try dsimp only at hSw); obtain ⟨s0, s1, s2, s3, s4, s5, s6, s7, s8, s9, s10, s11, s12, s13⟩ := hSw; go_simp; all_goals (with_reducible rfl))
        (try simp only [Act.put, List.setIfInBounds_toArray, List.set_cons_zero, List.set_cons_succ])
        refine wpAnyH_take (i := 14) (oi := _) (v := ?vv13) rfl (by kernel_rfl) (by kernel_rfl) (by kernel_rfl) (fun _ _ _ h => h) (Or.inl ⟨by kernel_rfl, ?hy13⟩) (by assumption) ?_
        case hy13 => (intro w hSw; (try dsimp only at hSw); obtain ⟨s0, s1, s2, s3, s4, s5, s6, s7, s8, s9, s10, s11, s12, s13⟩ := hSw; go_simp; all_goals (with_reducible rfl))
        (try simp only [Act.put, List.setIfInBounds_toArray, List.set_cons_zero, List.set_cons_succ])
        refine wpAnyH_take (i := 15) (oi := _) (v := ?vv14) rfl (by kernel_rfl) (by kernel_rfl) (by kernel_rfl) (fun _ _ _ h => h) (Or.inl ⟨by kernel_rfl, ?hy14⟩) (by assumption) ?_
        case hy14 => (intro w hSw; (try dsimp only at hSw); obtain ⟨s0, s1, s2, s3, s4, s5, s6, s7, s8, s9, s10, s11, s12, s13⟩ := hSw; go_simp; all_goals (with_reducible rfl))
        (try simp only [Act.put, List.setIfInBounds_toArray, List.set_cons_zero, List.set_cons_succ])
        refine wpAnyH_ready (rs := [16]) (by kernel_rfl) (by simp) ?_
        refine AllReadyH.cons (o := _) rfl (fun C hC => ?_) AllReadyH.nil
        go_simp
        refine (HEQ.out _ HG2.out).mono ?_
        rintro e wc ⟨rfl, hf⟩
        have HG3 : Hid (Fr (fun _ => False) w5 wc) := Fr.trans HG2.out hf (fun _ _ h => h)
        clear hf
        go_simp
        refine hC.out _ _ (HKS.out _ HG3.out) (fun hHeld => ?_)
        clear hC C
        (try simp only [Act.put, List.setIfInBounds_toArray, List.set_cons_zero, List.set_cons_succ])
        refine wpAnyH_take (i := 17) (oi := _) (v := ?vv15) rfl (by kernel_rfl) (by kernel_rfl) (by kernel_rfl) (fun _ _ _ h => h) (Or.inl ⟨by kernel_rfl, ?hy15⟩) (by assumption) ?_
        case hy15 => (intro w hSw; (try dsimp only at hSw); obtain ⟨s0, s1, s2, s3, s4, s5, s6, s7, s8, s9, s10, s11, s12, s13⟩ := hSw; go_simp; all_goals (with_reducible rfl))
        (try simp only [Act.put, List.setIfInBounds_toArray, List.set_cons_zero, List.set_cons_succ])
        refine wpAnyH_take (i := 18) (oi := _) (v := ?vv16) rfl (by kernel_rfl) (by kernel_rfl) (by kernel_rfl) (fun _ _ _ h => h) (Or.inl ⟨by kernel_rfl, ?hy16⟩) (by assumption) ?_
        case hy16 => (intro w hSw; (try dsimp only at hSw); obtain ⟨s0, s1, s2, s3, s4, s5, s6, s7, s8, s9, s10, s11, s12, s13⟩ := hSw; go_simp; all_goals (with_reducible rfl))
        (try simp only [Act.put, List.setIfInBounds_toArray, List.set_cons_zero, List.set_cons_succ])
        refine wpAnyH_take (i := 19) (oi := _) (v := ?vv17) rfl (by kernel_rfl) (by kernel_rfl) (by kernel_rfl) (fun _ _ _ h => h) (Or.inl ⟨by kernel_rfl, ?hy17⟩) (by assumption) ?_
        case hy17 => (intro w hSw; (try dsimp only at hSw); obtain ⟨s0, s1, s2, s3, s4, s5, s6, s7, s8, s9, s10, s11, s12, s13⟩ := hSw; go_simp; all_goals (with_reducible rfl))
        (try simp only [Act.put, List.setIfInBounds_toArray, List.set_cons_zero, List.set_cons_succ])
        refine wpAnyH_take (i := 20) (oi := _) (v := ?vv18) rfl (by kernel_rfl) (by kernel_rfl) (by kernel_rfl) (fun _ _ _ h => h) (Or.inl ⟨by kernel_rfl, ?hy18⟩) (by assumption) ?_
        case hy18 => (intro w hSw; (try dsimp only at hSw); obtain ⟨s0, s1, s2, s3, s4, s5, s6, s7, s8, s9, s10, s11, s12, s13⟩ := hSw; go_simp; all_goals (with_reducible rfl))
        (try simp only [Act.put, List.setIfInBounds_toArray, List.set_cons_zero, List.set_cons_succ])
        refine wpAnyH_take (i := 21) (oi := _) (v := ?vv19) rfl (by kernel_rfl) (by kernel_rfl) (by kernel_rfl) (fun _ _ _ h => h) (Or.inl ⟨by kernel_rfl, ?hy19⟩) (by assumption) ?_
        case hy19 => (intro w hSw; (try dsimp only at hSw); obtain ⟨s0, s1, s2, s3, s4, s5, s6, s7, s8, s9, s10, s11, s12, s13⟩ := hSw; go_simp; all_goals (with_reducible rfl))
        (try simp only [Act.put, List.setIfInBounds_toArray, List.set_cons_zero, List.set_cons_succ])
        refine wpAnyH_take (i := 22) (oi := _) (v := ?vv20) rfl (by kernel_rfl) (by kernel_rfl) (by kernel_rfl) (fun _ _ _ h => h) (Or.inl ⟨by kernel_rfl, ?hy20⟩) (by assumption) ?_
        case hy20 => (intro w hSw; (try dsimp only at hSw); obtain ⟨s0, s1, s2, s3, s4, s5, s6, s7, s8, s9, s10, s11, s12, s13⟩ := hSw; go_simp; all_goals (with_reducible rfl))
        (try simp only [Act.put, List.setIfInBounds_toArray, List.set_cons_zero, List.set_cons_succ])
        refine wpAnyH_take (i := 23) (oi := _) (v := ?vv21) rfl (by kernel_rfl) (by kernel_rfl) (by kernel_rfl) (fun _ _ _ h => h) (Or.inl ⟨by kernel_rfl, ?hy21⟩) (by assumption) ?_
        case hy21 => (intro w hSw; (try dsimp only at hSw); obtain ⟨s0, s1, s2, s3, s4, s5, s6, s7, s8, s9, s10, s11, s12, s13⟩ := hSw; go_simp; all_goals (with_reducible rfl))
        (try simp only [Act.put, List.setIfInBounds_toArray, List.set_cons_zero, List.set_cons_succ])
        refine wpAnyH_take (i := 24) (oi := _) (v := ?vv22) rfl (by kernel_rfl) (by kernel_rfl) (by kernel_rfl) (fun _ _ _ h => h) (Or.inl ⟨by kernel_rfl, ?hy22⟩) (by assumption) ?_
        case hy22 => (intro w hSw; (try dsimp only at hSw); obtain ⟨s0, s1, s2, s3, s4, s5, s6, s7, s8, s9, s10, s11, s12, s13⟩ := hSw; go_simp; all_goals (with_reducible rfl))
        (try simp only [Act.put, List.setIfInBounds_toArray, List.set_cons_zero, List.set_cons_succ])
        refine wpAnyH_ready (rs := [25]) (by kernel_rfl) (by simp) ?_
        refine AllReadyH.cons (o := _) rfl (fun C hC => ?_) AllReadyH.nil
        go_simp
        refine (HES.out _ HG3.out).mono ?_
        rintro e wd ⟨rfl, hf⟩
        have HG4 : Hid (Fr (fun _ => False) w5 wd) := Fr.trans HG3.out hf (fun _ _ h => h)
        clear hf
        go_simp
        refine hC.out _ _ (HKS.out _ HG4.out) (fun hHeld => ?_)
        clear hC C
        (try simp only [Act.put, List.setIfInBounds_toArray, List.set_cons_zero, List.set_cons_succ])
        refine wpAnyH_take (i := 26) (oi := _) (v := ?vv23) rfl (by kernel_rfl) (by kernel_rfl) (by kernel_rfl) (fun _ _ _ h => h) (Or.inl ⟨by kernel_rfl, ?hy23⟩) (by assumption) ?_
        case hy23 => (intro w hSw; (try dsimp only at hSw); obtain ⟨s0, s1, s2, s3, s4, s5, s6, s7, s8, s9, s10, s11, s12, s13⟩ := hSw; go_simp; all_goals (with_reducible rfl))
        (try simp only [Act.put, List.setIfInBounds_toArray, List.set_cons_zero, List.set_cons_succ])
        refine wpAnyH_take (i := 27) (oi := _) (v := ?vv24) rfl (by kernel_rfl) (by kernel_rfl) (by kernel_rfl) (fun _ _ _ h => h) (Or.inl ⟨by kernel_rfl, ?hy24⟩) (by assumption) ?_
        case hy24 => (intro w hSw; (try dsimp only at hSw); obtain ⟨s0, s1, s2, s3, s4, s5, s6, s7, s8, s9, s10, s11, s12, s13⟩ := hSw; go_simp; all_goals (with_reducible rfl))
        (try simp only [Act.put, List.setIfInBounds_toArray, List.set_cons_zero, List.set_cons_succ])
        refine wpAnyH_done (by kernel_rfl) ?_ _
        (try refine NoPanic.normal ?_)
        go_wp2_with fail
        exact ⟨⟨k + 1, by omega, by omega, congrArg (Value.int .i64) (by omega), HFX.out _ HG4.out⟩, by simp [intOf]; omega⟩
      · have hd2 : decide ((k : Int) < 10) = false := decide_eq_false (by omega)
        go_wp2_with fail
        refine (HWK.out _ HFR.out).mono ?_
        rintro e w1 ⟨rfl, hf1⟩
        go_wp2_with fail
        go_ret
        exact ⟨rfl, HFR.out.trans hf1 (fun _ _ h => h)⟩
    · have hd : decide ((k : Int) < (n : Int)) = false := decide_eq_false (by omega)
      go_wp2_with fail
      refine (HWK.out _ HFR.out).mono ?_
      rintro e w1 ⟨rfl, hf1⟩
      go_wp2_with fail
      go_ret
      exact ⟨rfl, HFR.out.trans hf1 (fun _ _ h => h)⟩
end Go.Proofs.YtamonbkhpbdojaaDoor
