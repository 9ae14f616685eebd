/- 'newTable', 'New', 'Put'. -/
import Derived.Test.YtkggdnkmaldmlabKCode
namespace Go.Proofs.Ytkggdnkmaldmlab
open Go.RowKit

theorem Try.info121 : (Try.prog.info? 121).map (fun i => (i.zero, i.size, i.bytes)) = some (some (.int .u8 0), 1, 1) := by kernel_rfl
theorem byteCells_replicate (n : Nat) : byteCells (List.replicate n 0) = List.replicate n (.int .u8 0) := by simp [byteCells]

set_option maxRecDepth 100000 in
set_option maxHeartbeats 1000000 in
theorem newTable_at (w : World) (n : Nat) (_ : 1 ≤ n) (h2 : n ≤ 131072) :
    Calls Try.prog 18 #[.int .i64 n] w fun e w' => ∃ g, e = .returned (.agg #[.slice (some ⟨g, 0, none⟩) n n, .int .i64 0]) ∧ w'.ownsRow 0 121 1 (.slice (some ⟨g, 0, none⟩) n n) n (byteCells (List.replicate n 0)) ∧ Fr (fun _ => False) w w' ∧ w.heap.size ≤ g := by
  obtain ⟨i0, hi, hz0, hz1, hz2⟩ := info_parts Try.info121
  go_enter Try.func18, Try.ntmps18
  go_wp2_with (first | (at_make; refine wpList_make_full _ rfl _ _ 49 rfl (w.heap.size + 1) 121 i0 (.int .u8 0) 1 Try.underlying49 hi hz0 hz1 .i64 .i64 _ _ n rfl rfl ?_ ?_ ?_ ?_ ?_ ?_))
  · omega
  · omega
  · rw [hz2]; omega
  · unfold maxLen; omega
  · simp
  · intro w2 hown hgrow
    have f : Fr (fun _ => False) (w.alloc (.cells #[.slice none 0 0, .int .i64 0] 51)) w2 := (Fr.refl _ _).grown hgrow (fun k hk _ => by cases hk)
    have hb : w2.heap[w.heap.size]? = some (.cells #[.slice none 0 0, .int .i64 0] 51 (0, 0)) := by
      rw [f.block w.heap.size (by simp) (fun hh => hh)]; exact heap_alloc_new _ _
    have c0 : w2.cell? ⟨w.heap.size, 0, none⟩ = some (.slice none 0 0) := by simp [World.cell?, hb]
    have c1 : w2.cell? ⟨w.heap.size, 1, none⟩ = some (.int .i64 0) := by simp [World.cell?, hb]
    have cf : ∀ j, w2.frozen? ⟨w.heap.size, j, none⟩ = false := by intro j; simp [World.frozen?, hb]
    have HF : Hid (Fr (fun _ => False) w w2) := ((Fr.refl _ _).alloc _).trans f (fun _ _ hh => hh)
    have HO : Hid (w2.ownsRow 0 121 1 (.slice (some ⟨w.heap.size + 1, 0, none⟩) n n) n (byteCells (List.replicate n 0))) := by
      rw [byteCells_replicate, ← toList_madeCells_one]
      exact ownsRow_base hown (fun _ _ => Nat.zero_le _)
    have h3 : ((w2.setCell ⟨w.heap.size, 0, none⟩ (.slice (some ⟨w.heap.size + 1, 0, none⟩) n n)).setCell ⟨w.heap.size, 1, none⟩ (.int .i64 0)).heap[w.heap.size]? = some (.cells #[.slice (some ⟨w.heap.size + 1, 0, none⟩) n n, .int .i64 0] 51 (0, 0)) := by
      rw [seven_set (seven_set hb)]; rfl
    have r0 : ((w2.setCell ⟨w.heap.size, 0, none⟩ (.slice (some ⟨w.heap.size + 1, 0, none⟩) n n)).setCell ⟨w.heap.size, 1, none⟩ (.int .i64 0)).cell? ⟨w.heap.size, 0, none⟩ = some (.slice (some ⟨w.heap.size + 1, 0, none⟩) n n) := by simp [World.cell?, h3]
    have r1 : ((w2.setCell ⟨w.heap.size, 0, none⟩ (.slice (some ⟨w.heap.size + 1, 0, none⟩) n n)).setCell ⟨w.heap.size, 1, none⟩ (.int .i64 0)).cell? ⟨w.heap.size, 1, none⟩ = some (.int .i64 0) := by simp [World.cell?, h3]
    have HF3 : Hid (Fr (fun k => k = w.heap.size) w2 ((w2.setCell ⟨w.heap.size, 0, none⟩ (.slice (some ⟨w.heap.size + 1, 0, none⟩) n n)).setCell ⟨w.heap.size, 1, none⟩ (.int .i64 0))) := Fr.setCell (p := ⟨w.heap.size, 1, none⟩) (Fr.set1 _ _ _ _) (fun _ => rfl) _
    obtain ⟨w3, hw3⟩ : ∃ w3, w3 = (w2.setCell ⟨w.heap.size, 0, none⟩ (.slice (some ⟨w.heap.size + 1, 0, none⟩) n n)).setCell ⟨w.heap.size, 1, none⟩ (.int .i64 0) := ⟨_, rfl⟩
    rw [← hw3] at r0 r1 HF3
    have HW3 : Hid (w3 = (w2.setCell ⟨w.heap.size, 0, none⟩ (.slice (some ⟨w.heap.size + 1, 0, none⟩) n n)).setCell ⟨w.heap.size, 1, none⟩ (.int .i64 0)) := hw3
    clear hown hgrow f hb h3 hw3
    go_wp2_with fail
    rw [← HW3.out]
    refine bodyPost_ret (v := .agg #[.slice (some ⟨w.heap.size + 1, 0, none⟩) n n, .int .i64 0]) (by simp [results, Try.results18, go_sem, r0, r1]) rfl ?_
    refine ⟨w.heap.size + 1, rfl, ?_, ?_, by omega⟩
    · exact row_kept1 HO.out HF3.out (by omega)
    · exact HF.out.trans HF3.out (fun i hi e => by omega)

set_option maxRecDepth 100000 in
set_option maxHeartbeats 1000000 in
/-- What is refused. -/
theorem new_refuses (w : World) (i : Int) (h : ¬ (1 ≤ i ∧ i ≤ 131072)) :
    Calls Try.prog 6 #[.int .i64 i] w fun e w' => e = .returned (.tuple #[.pointer none, .int .i64 40]) ∧ w' = w := by
  have HT : Hid (∀ w, Calls Try.prog 17 #[.int .i64 i] w fun e w' => e = .returned (.bool false) ∧ w' = w) := fun w => isTable_at w i false (by simp [h])
  clear h
  go_enter Try.func6, Try.ntmps6
  go_wp2_with (first | (go_at_call 17; refine (HT.out _).mono ?_; rintro e w1 ⟨rfl, rfl⟩))
  go_ret2
  exact ⟨rfl, rfl⟩

set_option maxRecDepth 100000 in
set_option maxHeartbeats 1000000 in
theorem new_any (w : World) (n : Nat) (h1 : 1 ≤ n) (h2 : n ≤ 131072) :
    Calls Try.prog 6 #[.int .i64 n] w fun e w' => ∃ bc gc gb, e = .returned (.tuple #[.pointer (some ⟨bc, 0, none⟩), .int .i64 0]) ∧ CoAt w' bc gc n gb 1 (newP n) ∧ Fr (fun _ => False) w w' ∧ w.heap.size ≤ bc ∧ w.heap.size ≤ gc ∧ w.heap.size ≤ gb := by
  have HT : Hid (∀ w, Calls Try.prog 17 #[.int .i64 n] w fun e w' => e = .returned (.bool true) ∧ w' = w) := fun w => isTable_at w n true (by rw [eq_comm, decide_eq_true_eq]; omega)
  have HN : Hid (1 ≤ n ∧ n ≤ 131072) := ⟨h1, h2⟩
  clear h1 h2
  go_enter Try.func6, Try.ntmps6
  go_wp2_with (first | (go_at_call 17; refine (HT.out _).mono ?_; rintro e w1 ⟨rfl, rfl⟩) | (go_at_call 18; refine (newTable_at _ n HN.out.1 HN.out.2).mono ?_; rintro e w2 ⟨g, rfl, hown, hf, hg⟩; have HO : Hid (w2.ownsRow 0 121 1 (.slice (some ⟨g, 0, none⟩) n n) n (byteCells (List.replicate n 0))) := hown; have HF : Hid (Fr (fun _ => False) w1 w2) := hf; clear hown hf))
  go_ret2
  have hsz := HF.out.size
  refine ⟨w2.heap.size + 1, g, w2.heap.size, rfl, ⟨?_, ?_, ?_⟩, (HF.out.alloc _).alloc _, by omega, hg, hsz⟩
  · have := heap_alloc_new (w2.alloc (Obj.cells #[Value.int IntKind.u8 0] 5)) (Obj.cells #[Value.slice (some ⟨g, 0, none⟩) n n, Value.int IntKind.i64 0, Value.int IntKind.u32 32768, Value.int IntKind.u32 0, Value.int IntKind.i64 12, Value.slice (some ⟨w2.heap.size, 0, none⟩) 1 1, Value.bool false] 55)
    simp only [newP, List.length_replicate, List.length_nil]
    rw [World.size_alloc] at this
    exact this
  · simp only [newP, List.length_replicate]
    exact (HO.out.alloc _).alloc _
  · exact World.ownsRow.alloc (World.ownsRow_lit (base := 0) (e := 5) (size := 1) w2 #[.int .u8 0] 1 (Nat.zero_le _) (by decide) rfl) _

set_option maxRecDepth 100000 in
set_option maxHeartbeats 1000000 in
/-- A decision. -/
theorem put_any (w : World) (bc gc cc gb cb : Nat) (o : Co) (h : CoAt w bc gc cc gb cb o) (hok : Ook o) (hm : o.made < 16777216) (i : Int) (hi : -9223372036854775808 ≤ i ∧ i ≤ 9223372036854775807) (bit : Nat) (hbit : bit < 2) :
    Calls Try.prog 75 #[.pointer (some ⟨bc, 0, none⟩), .int .i64 i, .int .i64 bit] w fun e w' => e = .returned (.int .i64 0) ∧ ∃ gb' cb', CoAt w' bc gc cc gb' cb' (putP o i bit) ∧ CStep bc gc gb gb' w w' := by
  obtain ⟨e0, e1, e2, e3, e4, e5, e6, ef⟩ := cell_of_seven h.blk
  have HO : Hid (CoAt w bc gc cc gb cb o) := h
  have HK : Hid (Ook o) := hok
  have HI : Hid (-9223372036854775808 ≤ i ∧ i ≤ 9223372036854775807) := hi
  have HB : Hid (bit < 2) := hbit
  have HM : Hid (o.made < 16777216) := hm
  have hbi : IntKind.u8.wrap (bit : Int) = (bit : Int) := by rcases (show bit = 0 ∨ bit = 1 by omega) with rfl | rfl <;> decide
  have HF : Hid (((o.made : Int) == 16777216) = false) := by show _ = _; rw [beq_eq_false_iff_ne]; omega
  have hs : Hid (CoAt (w.setCell ⟨bc, 1, none⟩ (.int .i64 ((o.made + 1 : Nat) : Int))) bc gc cc gb cb { o with made := o.made + 1 }) := h.setMade (o.made + 1)
  have HST : Hid (CStep bc gc gb gb w (w.setCell ⟨bc, 1, none⟩ (.int .i64 ((o.made + 1 : Nat) : Int)))) := CStep.of_fr ((Fr.set1 _ _ _ _).mono (fun _ _ e => Or.inl e))
  have HX : Hid (o.x.getD (placeOf i o.x.length) 0 < 94) := getD_lt hok.cells _
  have HL : Hid (o.s.b.length ≤ 900000000) := by show _ ≤ _; have := hok.len; omega
  clear h hok hi hm e2 e3 e4 e5
  rcases (show bit = 0 ∨ bit = 1 by omega) with rfl | rfl
  all_goals
    go_enter Try.func75, Try.ntmps75
    go_wp2_with (first | (go_at_call 76; refine (isFull_at _ bc o.made e1 false HF.out).mono ?_; rintro e w1 ⟨rfl, rfl⟩) | (go_at_call 78; refine (next_at _ bc gc cc o.x.length o.made i HI.out HK.out.pos HK.out.lim HM.out e0 e1 (ef 1)).mono ?_; rintro e w2 ⟨rfl, rfl⟩))
    refine (code_any _ bc gc cc gb cb _ (placeOf i o.x.length) _ hs.out HK.out.ok (placeOf_lt i HK.out.pos) HX.out HB.out HL.out).mono ?_
    rintro e w3 ⟨rfl, gb', cb', hc3, hs3⟩
    go_wp2_with fail
    go_ret
    exact ⟨rfl, gb', cb', hc3, HST.out.trans hs3⟩

end Go.Proofs.Ytkggdnkmaldmlab
