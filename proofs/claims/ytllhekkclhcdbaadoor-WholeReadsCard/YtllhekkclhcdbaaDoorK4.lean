/- The reference's coder in memory: over the same plain coder. -/
import Derived.Test.YtllhekkclhcdbaaDoorKRefB
namespace Go.Proofs.YtllhekkclhcdbaaDoor
open Go.RowKit

/-- A coder of the reference: its block br, its table gt, its states gs, its likelier bits gz, its bytes gb. -/
structure ReAt (w : World) (br gt ct gs gz n gb cb : Nat) (o : Co) (done : Bool) : Prop where
  blk : w.heap[br]? = some (.cells #[.slice (some ⟨gt, 0, none⟩) 47 ct, .slice (some ⟨gs, 0, none⟩) n n, .slice (some ⟨gz, 0, none⟩) n n, .int .i64 (o.made : Nat), .int .i64 (o.s.a : Nat), .int .i64 (o.s.c : Nat), .int .i64 (o.s.t : Nat), .slice (some ⟨gb, 0, none⟩) (o.s.b.length + 1) cb, .bool done] 68 (0, 0))
  tab : w.ownsRow 0 117 4 (.slice (some ⟨gt, 0, none⟩) 47 ct) 47 (tabCells 47)
  st : w.ownsRow 0 3 1 (.slice (some ⟨gs, 0, none⟩) n n) n (intCells (o.x.map (· / 2)))
  bt : w.ownsRow 0 3 1 (.slice (some ⟨gz, 0, none⟩) n n) n (intCells (o.x.map (· % 2)))
  bs : w.ownsRow 0 5 1 (.slice (some ⟨gb, 0, none⟩) (o.s.b.length + 1) cb) (o.s.b.length + 1) (byteCells o.s.bytes)
  ne : gs ≠ gz
  len : o.x.length = n

theorem cell_of_nine {w : World} {b : Nat} {x0 x1 x2 x3 x4 x5 x6 x7 x8 : Value} {t : TypeId} (h : w.heap[b]? = some (.cells #[x0, x1, x2, x3, x4, x5, x6, x7, x8] t (0, 0))) :
    w.cell? ⟨b, 0, none⟩ = some x0 ∧ w.cell? ⟨b, 1, none⟩ = some x1 ∧ w.cell? ⟨b, 2, none⟩ = some x2 ∧ w.cell? ⟨b, 3, none⟩ = some x3 ∧ w.cell? ⟨b, 4, none⟩ = some x4 ∧ w.cell? ⟨b, 5, none⟩ = some x5 ∧ w.cell? ⟨b, 6, none⟩ = some x6 ∧ w.cell? ⟨b, 7, none⟩ = some x7 ∧ w.cell? ⟨b, 8, none⟩ = some x8 ∧ (∀ j, w.frozen? ⟨b, j, none⟩ = false) := by
  refine ⟨?_, ?_, ?_, ?_, ?_, ?_, ?_, ?_, ?_, fun j => ?_⟩ <;> simp [World.cell?, World.frozen?, h]

theorem ReAt.lt {w : World} {br gt ct gs gz n gb cb : Nat} {o : Co} {d : Bool} (h : ReAt w br gt ct gs gz n gb cb o d) : br < w.heap.size := lt_of_block h.blk
theorem ReAt.kept {w w' : World} {br gt ct gs gz n gb cb : Nat} {o : Co} {d : Bool} {S : Nat → Prop} (h : ReAt w br gt ct gs gz n gb cb o d) (f : Fr S w w') (h1 : ¬ S br) (h2 : ¬ S gt) (h3 : ¬ S gs) (h4 : ¬ S gz) (h5 : ¬ S gb) : ReAt w' br gt ct gs gz n gb cb o d :=
  ⟨by rw [f.block br h.lt h1]; exact h.blk, row_kept1 h.tab f h2, row_kept1 h.st f h3, row_kept1 h.bt f h4, row_kept1 h.bs f h5, h.ne, h.len⟩

set_option maxRecDepth 100000 in
set_option maxHeartbeats 2000000 in
theorem rnew_any (w : World) (n : Nat) (h1 : 1 ≤ n) (h2 : n ≤ 131072) :
    Calls Tryd.prog 19 #[.int .i64 n] w fun e w' => ∃ br gt ct gs gz gb, e = .returned (.pointer (some ⟨br, 0, none⟩)) ∧ ReAt w' br gt ct gs gz n gb 1 (newP n) false ∧ Fr (fun _ => False) w w' ∧ w.heap.size ≤ br ∧ w.heap.size ≤ gt ∧ w.heap.size ≤ gs ∧ w.heap.size ≤ gz ∧ w.heap.size ≤ gb := by
  have HN : Hid (1 ≤ n ∧ n ≤ 131072) := ⟨h1, h2⟩
  clear h1 h2
  go_enter Tryd.func19, Tryd.ntmps19
  go_wp2_with fail
  refine (begun_at w n HN.out.1 HN.out.2).mono ?_
  rintro e w1 ⟨gt, ct, gs, gz, rfl, hb⟩
  have HB : Hid (Begun w w1 gt ct gs gz n) := hb
  clear hb
  go_wp2_with fail
  go_ret
  have hz := HB.out.fr.size
  obtain ⟨n1, n2, n3⟩ := HB.out.new
  refine ⟨w1.heap.size + 1, gt, ct, gs, gz, w1.heap.size, rfl, ⟨?_, ?_, ?_, ?_, ?_, HB.out.ne, by simp [newP]⟩, (HB.out.fr.alloc _).alloc _, by omega, n1, n2, n3, by omega⟩
  · have := heap_alloc_new (w1.alloc (Obj.cells #[Value.int IntKind.u8 0] 5)) (Obj.cells #[.slice (some ⟨gt, 0, none⟩) 47 ct, .slice (some ⟨gs, 0, none⟩) n n, .slice (some ⟨gz, 0, none⟩) n n, .int .i64 0, .int .i64 32768, .int .i64 0, .int .i64 12, .slice (some ⟨w1.heap.size, 0, none⟩) 1 1, .bool false] 68)
    rw [World.size_alloc] at this
    exact this
  · exact (HB.out.tab.alloc _).alloc _
  · have e : (newP n).x.map (· / 2) = List.replicate n 0 := by simp [newP]
    rw [e]; exact (HB.out.st.alloc _).alloc _
  · have e : (newP n).x.map (· % 2) = List.replicate n 0 := by simp [newP]
    rw [e]; exact (HB.out.bt.alloc _).alloc _
  · exact World.ownsRow.alloc (World.ownsRow_lit (base := 0) (e := 5) (size := 1) w1 #[.int .u8 0] 1 (Nat.zero_le _) (by decide) rfl) _

set_option maxRecDepth 100000 in
set_option maxHeartbeats 1000000 in
theorem rindex_at (w : World) (br gs n : Nat) (i : Int) (_ : -9223372036854775808 ≤ i ∧ i ≤ 9223372036854775807) (h1 : 1 ≤ n) (h2 : n ≤ 131072) (e1 : w.cell? ⟨br, 1, none⟩ = some (.slice (some ⟨gs, 0, none⟩) n n)) :
    Calls Tryd.prog 65 #[.pointer (some ⟨br, 0, none⟩), .int .i64 i] w fun e w' => e = .returned (.int .i64 (placeOf i n : Nat)) ∧ w' = w := by
  have hpos : 0 < (n : Int) := by omega
  have hp : ((placeOf i n : Nat) : Int) = i % (n : Int) := by
    have := Int.emod_nonneg i (show (n : Int) ≠ 0 by omega)
    unfold placeOf; omega
  have hb := tmod_bd i n h1
  obtain ⟨k, HK⟩ : ∃ k, Hid (k = placeOf i n) := ⟨_, rfl⟩
  rw [← HK.out] at hp ⊢
  have hn0 : (n : Int) ≠ 0 := by omega
  have hn1 : ((n : Int) == 0) = false := by rw [beq_eq_false_iff_ne]; omega
  by_cases h0 : Int.tmod i n < 0
  · rw [emod_tneg i n h1 h0] at hp
    have hd : decide (i.tmod n < 0) = true := decide_eq_true h0
    have hk : i.tmod n + n = (k : Int) := hp.symm
    clear hp
    go_enter Tryd.func65, Tryd.ntmps65
    go_wp2
    all_goals first
      | (go_ret; exact ⟨rfl, rfl⟩)
      | (exfalso; omega)
  · rw [emod_tpos i n h1 h0] at hp
    have hd : decide (i.tmod n < 0) = false := decide_eq_false h0
    have hk : i.tmod n = (k : Int) := hp.symm
    clear hp
    go_enter Tryd.func65, Tryd.ntmps65
    go_wp2
    all_goals first
      | (go_ret; exact ⟨rfl, rfl⟩)
      | (exfalso; omega)

end Go.Proofs.YtllhekkclhcdbaaDoor

/- The reference's 'likely', 'other'. -/
namespace Go.Proofs.YtllhekkclhcdbaaDoor
open Go.RowKit

theorem tabCells_get : ∀ k s, s < k → (tabCells k)[s * 4]? = some (.int .i64 (rQ s : Nat)) ∧ (tabCells k)[s * 4 + 1]? = some (.int .i64 (rM s : Nat)) ∧ (tabCells k)[s * 4 + 2]? = some (.int .i64 (rL s : Nat)) ∧ (tabCells k)[s * 4 + 3]? = some (.bool (rS s))
  | 0, s, h => by omega
  | k + 1, s, h => by
    have hl := length_tabCells k
    unfold tabCells
    by_cases hs : s < k
    · rw [List.getElem?_append_left (by omega), List.getElem?_append_left (by omega), List.getElem?_append_left (by omega), List.getElem?_append_left (by omega)]
      exact tabCells_get k s hs
    · have e : s = k := by omega
      subst e
      rw [List.getElem?_append_right (by omega), List.getElem?_append_right (by omega), List.getElem?_append_right (by omega), List.getElem?_append_right (by omega), hl, Nat.sub_self, show s * 4 + 1 - s * 4 = 1 by omega, show s * 4 + 2 - s * 4 = 2 by omega, show s * 4 + 3 - s * 4 = 3 by omega]
      exact ⟨rfl, rfl, rfl, rfl⟩

set_option maxRecDepth 100000 in
set_option maxHeartbeats 2000000 in
theorem rlikely_at (w : World) (br gt ct gs n k s m : Nat) (hk : k < n) (_ : n ≤ 131072) (hs : s < 47) (e0 : w.cell? ⟨br, 0, none⟩ = some (.slice (some ⟨gt, 0, none⟩) 47 ct)) (e1 : w.cell? ⟨br, 1, none⟩ = some (.slice (some ⟨gs, 0, none⟩) n n)) (cs : w.cell? ⟨gs, k, none⟩ = some (.int .i64 (s : Nat))) (cm : w.cell? ⟨gt, s * 4 + 1, none⟩ = some (.int .i64 (m : Nat))) (cf : w.frozen? ⟨gs, k, none⟩ = false) :
    Calls Tryd.prog 66 #[.pointer (some ⟨br, 0, none⟩), .int .i64 (k : Nat)] w fun e w' => e = .returned (.tuple #[]) ∧ w' = (w.setCell ⟨gs, k, none⟩ (.int .i64 (m : Nat))).drew := by
  go_enter Tryd.func66, Tryd.ntmps66
  go_wp2_with fail
  go_region
  go_wp2_with fail
  go_end0
  exact ⟨rfl, rfl⟩

set_option maxRecDepth 100000 in
set_option maxHeartbeats 4000000 in
/-- The likelier bit stays. -/
theorem rother_keep (w : World) (br gt ct gs gz n k s q m l z : Nat) (hk : k < n) (_ : n ≤ 131072) (hr : IsRow s q m l false) (_ : z < 2) (_ : gs ≠ gz) (e0 : w.cell? ⟨br, 0, none⟩ = some (.slice (some ⟨gt, 0, none⟩) 47 ct)) (e1 : w.cell? ⟨br, 1, none⟩ = some (.slice (some ⟨gs, 0, none⟩) n n)) (_ : w.cell? ⟨br, 2, none⟩ = some (.slice (some ⟨gz, 0, none⟩) n n)) (cs : w.cell? ⟨gs, k, none⟩ = some (.int .i64 (s : Nat))) (cz : w.cell? ⟨gz, k, none⟩ = some (.int .i64 (z : Nat)))
    (cq : w.cell? ⟨gt, s * 4, none⟩ = some (.int .i64 (q : Nat))) (cm : w.cell? ⟨gt, s * 4 + 1, none⟩ = some (.int .i64 (m : Nat))) (cl : w.cell? ⟨gt, s * 4 + 2, none⟩ = some (.int .i64 (l : Nat))) (cb : w.cell? ⟨gt, s * 4 + 3, none⟩ = some (.bool false)) (cf : w.frozen? ⟨gs, k, none⟩ = false) (_ : w.frozen? ⟨gz, k, none⟩ = false) (_ : gs ≠ br) (_ : gz ≠ br) (_ : gz ≠ gt) :
    Calls Tryd.prog 67 #[.pointer (some ⟨br, 0, none⟩), .int .i64 (k : Nat)] w fun e w' => e = .returned (.tuple #[]) ∧ Fr (fun _ => False) (w.setCell ⟨gs, k, none⟩ (.int .i64 (l : Nat))) w' := by
  obtain ⟨b1, b2, b3, b4⟩ := hr.bd
  have hs := hr.hs
  clear hr
  have x1 : br < w.heap.size := World.block_lt_of_cell? w ⟨br, 0, none⟩ e0
  have x2 : gs < w.heap.size := World.block_lt_of_cell? w ⟨gs, k, none⟩ cs
  have x3 : gz < w.heap.size := World.block_lt_of_cell? w ⟨gz, k, none⟩ cz
  have x4 : gt < w.heap.size := World.block_lt_of_cell? w ⟨gt, s * 4, none⟩ cq
  go_enter Tryd.func67, Tryd.ntmps67
  go_wp2_with fail
  go_region
  go_wp2_with fail
  go_region
  all_goals
    go_wp2_with fail
    go_end0
    exact ⟨rfl, (((Fr.refl _ _).alloc _).drew).drew⟩

set_option maxRecDepth 100000 in
set_option maxHeartbeats 4000000 in
/-- The likelier bit changes. -/
theorem rother_turn (w : World) (br gt ct gs gz n k s q m l z : Nat) (hk : k < n) (_ : n ≤ 131072) (hr : IsRow s q m l true) (hz : z < 2) (_ : gs ≠ gz) (e0 : w.cell? ⟨br, 0, none⟩ = some (.slice (some ⟨gt, 0, none⟩) 47 ct)) (e1 : w.cell? ⟨br, 1, none⟩ = some (.slice (some ⟨gs, 0, none⟩) n n)) (e2 : w.cell? ⟨br, 2, none⟩ = some (.slice (some ⟨gz, 0, none⟩) n n)) (cs : w.cell? ⟨gs, k, none⟩ = some (.int .i64 (s : Nat))) (cz : w.cell? ⟨gz, k, none⟩ = some (.int .i64 (z : Nat)))
    (cq : w.cell? ⟨gt, s * 4, none⟩ = some (.int .i64 (q : Nat))) (cm : w.cell? ⟨gt, s * 4 + 1, none⟩ = some (.int .i64 (m : Nat))) (cl : w.cell? ⟨gt, s * 4 + 2, none⟩ = some (.int .i64 (l : Nat))) (cb : w.cell? ⟨gt, s * 4 + 3, none⟩ = some (.bool true)) (cf : w.frozen? ⟨gs, k, none⟩ = false) (cfz : w.frozen? ⟨gz, k, none⟩ = false) (_ : gs ≠ br) (_ : gz ≠ br) (_ : gz ≠ gt) :
    Calls Tryd.prog 67 #[.pointer (some ⟨br, 0, none⟩), .int .i64 (k : Nat)] w fun e w' => e = .returned (.tuple #[]) ∧ Fr (fun _ => False) ((w.setCell ⟨gz, k, none⟩ (.int .i64 ((1 - z : Nat) : Int))).setCell ⟨gs, k, none⟩ (.int .i64 (l : Nat))) w' := by
  obtain ⟨b1, b2, b3, b4⟩ := hr.bd
  have hs := hr.hs
  clear hr
  have x1 : br < w.heap.size := World.block_lt_of_cell? w ⟨br, 0, none⟩ e0
  have x2 : gs < w.heap.size := World.block_lt_of_cell? w ⟨gs, k, none⟩ cs
  have x3 : gz < w.heap.size := World.block_lt_of_cell? w ⟨gz, k, none⟩ cz
  have x4 : gt < w.heap.size := World.block_lt_of_cell? w ⟨gt, s * 4, none⟩ cq
  obtain ⟨z1, HZ1⟩ : ∃ z1, Hid (z1 = 1 - z) := ⟨_, rfl⟩
  have hz1 : (1 : Int) - (z : Int) = (z1 : Int) := by rw [HZ1.out]; omega
  rw [← HZ1.out]
  go_enter Tryd.func67, Tryd.ntmps67
  go_wp2_with fail
  go_region
  go_wp2_with fail
  go_region
  all_goals
    go_wp2_with fail
    go_region
    all_goals
      go_wp2_with fail
      go_end0
      exact ⟨rfl, ((((Fr.refl _ _).alloc _).drew).drew).drew⟩

end Go.Proofs.YtllhekkclhcdbaaDoor

/- The reference's coder: its registers written. -/
namespace Go.Proofs.YtllhekkclhcdbaaDoor
open Go.RowKit

theorem ReAt.nes {w : World} {br gt ct gs gz n gb cb : Nat} {o : Co} {d : Bool} (h : ReAt w br gt ct gs gz n gb cb o d) : gt ≠ br ∧ gs ≠ br ∧ gz ≠ br ∧ gb ≠ br ∧ gs ≠ gt ∧ gz ≠ gt ∧ gb ≠ gt ∧ gb ≠ gs ∧ gb ≠ gz :=
  ⟨row_nb h.tab rfl h.blk (by decide), row_nb h.st rfl h.blk (by decide), row_nb h.bt rfl h.blk (by decide), row_nb h.bs rfl h.blk (by decide), row_ne h.st h.tab rfl rfl (by decide), row_ne h.bt h.tab rfl rfl (by decide), row_ne h.bs h.tab rfl rfl (by decide), row_ne h.bs h.st rfl rfl (by decide), row_ne h.bs h.bt rfl rfl (by decide)⟩

theorem ReAt.reg {w : World} {br gt ct gs gz n gb cb : Nat} {o o' : Co} {d d' : Bool} (h : ReAt w br gt ct gs gz n gb cb o d) (j : Nat) (u : Value) (hx : o'.x = o.x) (hbb : o'.s.b = o.s.b) (hbl : o'.s.l = o.s.l)
    (hb : (#[.slice (some ⟨gt, 0, none⟩) 47 ct, .slice (some ⟨gs, 0, none⟩) n n, .slice (some ⟨gz, 0, none⟩) n n, .int .i64 (o.made : Nat), .int .i64 (o.s.a : Nat), .int .i64 (o.s.c : Nat), .int .i64 (o.s.t : Nat), .slice (some ⟨gb, 0, none⟩) (o.s.b.length + 1) cb, .bool d] : Array Value).setIfInBounds j u = #[.slice (some ⟨gt, 0, none⟩) 47 ct, .slice (some ⟨gs, 0, none⟩) n n, .slice (some ⟨gz, 0, none⟩) n n, .int .i64 (o'.made : Nat), .int .i64 (o'.s.a : Nat), .int .i64 (o'.s.c : Nat), .int .i64 (o'.s.t : Nat), .slice (some ⟨gb, 0, none⟩) (o.s.b.length + 1) cb, .bool d']) :
    ReAt (w.setCell ⟨br, j, none⟩ u) br gt ct gs gz n gb cb o' d' := by
  have f := Fr.set1 w br j u
  obtain ⟨n1, n2, n3, n4, _⟩ := h.nes
  refine ⟨?_, row_kept1 h.tab f n1, ?_, ?_, ?_, h.ne, by rw [hx]; exact h.len⟩
  · rw [seven_set h.blk, hb, hbb]
  · rw [hx]; exact row_kept1 h.st f n2
  · rw [hx]; exact row_kept1 h.bt f n3
  · have e : o'.s.bytes = o.s.bytes := by unfold Cs.bytes; rw [hbb, hbl]
    rw [e, hbb]; exact row_kept1 h.bs f n4
theorem ReAt.setMade {w : World} {br gt ct gs gz n gb cb : Nat} {o : Co} {d : Bool} (h : ReAt w br gt ct gs gz n gb cb o d) (v : Nat) : ReAt (w.setCell ⟨br, 3, none⟩ (.int .i64 (v : Int))) br gt ct gs gz n gb cb { o with made := v } d := h.reg 3 _ rfl rfl rfl rfl
theorem ReAt.setA {w : World} {br gt ct gs gz n gb cb : Nat} {o : Co} {d : Bool} (h : ReAt w br gt ct gs gz n gb cb o d) (v : Nat) : ReAt (w.setCell ⟨br, 4, none⟩ (.int .i64 (v : Int))) br gt ct gs gz n gb cb { o with s := { o.s with a := v } } d := h.reg 4 _ rfl rfl rfl rfl
theorem ReAt.setC {w : World} {br gt ct gs gz n gb cb : Nat} {o : Co} {d : Bool} (h : ReAt w br gt ct gs gz n gb cb o d) (v : Nat) : ReAt (w.setCell ⟨br, 5, none⟩ (.int .i64 (v : Int))) br gt ct gs gz n gb cb { o with s := { o.s with c := v } } d := h.reg 5 _ rfl rfl rfl rfl
theorem ReAt.setT {w : World} {br gt ct gs gz n gb cb : Nat} {o : Co} {d : Bool} (h : ReAt w br gt ct gs gz n gb cb o d) (v : Nat) : ReAt (w.setCell ⟨br, 6, none⟩ (.int .i64 (v : Int))) br gt ct gs gz n gb cb { o with s := { o.s with t := v } } d := h.reg 6 _ rfl rfl rfl rfl
theorem ReAt.setDone {w : World} {br gt ct gs gz n gb cb : Nat} {o : Co} {d : Bool} (h : ReAt w br gt ct gs gz n gb cb o d) : ReAt (w.setCell ⟨br, 8, none⟩ (.bool true)) br gt ct gs gz n gb cb o true := h.reg 8 _ rfl rfl rfl rfl
/-- A context: its state, its likelier bit. -/
theorem ReAt.setX {w : World} {br gt ct gs gz n gb cb : Nat} {o : Co} {d : Bool} (h : ReAt w br gt ct gs gz n gb cb o d) (k v : Nat) : ReAt ((w.setCell ⟨gz, k, none⟩ (.int .i64 ((v % 2 : Nat) : Int))).setCell ⟨gs, k, none⟩ (.int .i64 ((v / 2 : Nat) : Int))) br gt ct gs gz n gb cb { o with x := o.x.set k v } d := by
  obtain ⟨n1, n2, n3, n4, n5, n6, n7, n8, n9⟩ := h.nes
  have f1 := Fr.set1 w gz k (.int .i64 ((v % 2 : Nat) : Int))
  have f2 := Fr.set1 (w.setCell ⟨gz, k, none⟩ (.int .i64 ((v % 2 : Nat) : Int))) gs k (.int .i64 ((v / 2 : Nat) : Int))
  have f : Fr (fun j => j = gz ∨ j = gs) w ((w.setCell ⟨gz, k, none⟩ (.int .i64 ((v % 2 : Nat) : Int))).setCell ⟨gs, k, none⟩ (.int .i64 ((v / 2 : Nat) : Int))) :=
    (f1.mono (fun _ _ e => Or.inl e)).trans f2 (fun _ _ e => Or.inr e)
  refine ⟨?_, row_kept1 h.tab f (by rintro (e | e); exact n6 e.symm; exact n5 e.symm), ?_, ?_, row_kept1 h.bs f (by rintro (e | e); exact n9 e; exact n8 e), h.ne, by simp only [List.length_set]; exact h.len⟩
  · rw [f.block br h.lt (by rintro (e | e); exact n3 e.symm; exact n2 e.symm)]; exact h.blk
  · have := ((row_kept1 h.st f1 h.ne).stored k (.int .i64 ((v / 2 : Nat) : Int))).1
    rw [intCells_set] at this
    simp only [List.map_set]; exact this
  · have := (h.bt.stored k (.int .i64 ((v % 2 : Nat) : Int))).1
    rw [intCells_set] at this
    have k2 := row_kept1 this f2 (Ne.symm h.ne)
    simp only [List.map_set]; exact k2
theorem ReAt.setL {w : World} {br gt ct gs gz n gb cb : Nat} {o : Co} {d : Bool} (h : ReAt w br gt ct gs gz n gb cb o d) (v : Nat) : ReAt (w.setCell ⟨gb, o.s.b.length, none⟩ (.int .u8 (v : Int))) br gt ct gs gz n gb cb { o with s := { o.s with l := v } } d := by
  obtain ⟨n1, n2, n3, n4, n5, n6, n7, n8, n9⟩ := h.nes
  have f := Fr.set1 w gb o.s.b.length (.int .u8 (v : Int))
  refine ⟨?_, row_kept1 h.tab f (Ne.symm n7), row_kept1 h.st f (Ne.symm n8), row_kept1 h.bt f (Ne.symm n9), ?_, h.ne, h.len⟩
  · rw [f.block br h.lt (Ne.symm n4)]; exact h.blk
  · have := (h.bs.stored o.s.b.length (.int .u8 (v : Int))).1
    rw [byteCells_set] at this
    have e : o.s.bytes.set o.s.b.length v = ({ o.s with l := v } : Cs).bytes := by simp [Cs.bytes]
    rw [e] at this; exact this

end Go.Proofs.YtllhekkclhcdbaaDoor
