/- The reference's coder in memory: over the same plain coder. -/
import Derived.Test.YtllhekkclhcdbaaDoorRefB
namespace Go.Proofs.YtllhekkclhcdbaaDoor
open Go.RowKit

/-- A coder of the reference: its block br, its table gt, its states gs, its likelier bits gz, its bytes gb. -/
structure ReAt (w : World) (br gt ct gs gz n gb cb : Nat) (o : Co) (done : Bool) : Prop where
  blk : w.heap[br]? = some (.cells #[.slice (some ⟨gt, 0, none⟩) 47 ct, .slice (some ⟨gs, 0, none⟩) n n, .slice (some ⟨gz, 0, none⟩) n n, .int .i64 (o.made : Nat), .int .i64 (o.s.a : Nat), .int .i64 (o.s.c : Nat), .int .i64 (o.s.t : Nat), .slice (some ⟨gb, 0, none⟩) (o.s.b.length + 1) cb, .bool done] 68 (0, 0))
  tab : w.ownsRow 0 117 4 (.slice (some ⟨gt, 0, none⟩) 47 ct) 47 (tabCells 47)
  st : w.ownsRow 0 3 1 (.slice (some ⟨gs, 0, none⟩) n n) n (intCells (o.x.map (· / 2)))
  bt : w.ownsRow 0 3 1 (.slice (some ⟨gz, 0, none⟩) n n) n (intCells (o.x.map (· % 2)))
  bs : w.ownsRow 0 5 1 (.slice (some ⟨gb, 0, none⟩) (o.s.b.length + 1) cb) (o.s.b.length + 1) (byteCells o.s.bytes)
  ne : gs ≠ gz
  len : o.x.length = n

theorem cell_of_nine {w : World} {b : Nat} {x0 x1 x2 x3 x4 x5 x6 x7 x8 : Value} {t : TypeId} (h : w.heap[b]? = some (.cells #[x0, x1, x2, x3, x4, x5, x6, x7, x8] t (0, 0))) :
    w.cell? ⟨b, 0, none⟩ = some x0 ∧ w.cell? ⟨b, 1, none⟩ = some x1 ∧ w.cell? ⟨b, 2, none⟩ = some x2 ∧ w.cell? ⟨b, 3, none⟩ = some x3 ∧ w.cell? ⟨b, 4, none⟩ = some x4 ∧ w.cell? ⟨b, 5, none⟩ = some x5 ∧ w.cell? ⟨b, 6, none⟩ = some x6 ∧ w.cell? ⟨b, 7, none⟩ = some x7 ∧ w.cell? ⟨b, 8, none⟩ = some x8 ∧ (∀ j, w.frozen? ⟨b, j, none⟩ = false) := by
  refine ⟨?_, ?_, ?_, ?_, ?_, ?_, ?_, ?_, ?_, fun j => ?_⟩ <;> simp [World.cell?, World.frozen?, h]

theorem ReAt.lt {w : World} {br gt ct gs gz n gb cb : Nat} {o : Co} {d : Bool} (h : ReAt w br gt ct gs gz n gb cb o d) : br < w.heap.size := lt_of_block h.blk
theorem ReAt.kept {w w' : World} {br gt ct gs gz n gb cb : Nat} {o : Co} {d : Bool} {S : Nat → Prop} (h : ReAt w br gt ct gs gz n gb cb o d) (f : Fr S w w') (h1 : ¬ S br) (h2 : ¬ S gt) (h3 : ¬ S gs) (h4 : ¬ S gz) (h5 : ¬ S gb) : ReAt w' br gt ct gs gz n gb cb o d :=
  ⟨by rw [f.block br h.lt h1]; exact h.blk, row_kept1 h.tab f h2, row_kept1 h.st f h3, row_kept1 h.bt f h4, row_kept1 h.bs f h5, h.ne, h.len⟩

set_option maxRecDepth 100000 in
set_option maxHeartbeats 2000000 in
theorem rnew_any (w : World) (n : Nat) (h1 : 1 ≤ n) (h2 : n ≤ 131072) :
    Calls Tryd.prog 19 #[.int .i64 n] w fun e w' => ∃ br gt ct gs gz gb, e = .returned (.pointer (some ⟨br, 0, none⟩)) ∧ ReAt w' br gt ct gs gz n gb 1 (newP n) false ∧ Fr (fun _ => False) w w' ∧ w.heap.size ≤ br ∧ w.heap.size ≤ gt ∧ w.heap.size ≤ gs ∧ w.heap.size ≤ gz ∧ w.heap.size ≤ gb := by
  have HN : Hid (1 ≤ n ∧ n ≤ 131072) := ⟨h1, h2⟩
  clear h1 h2
  go_enter Tryd.func19, Tryd.ntmps19
  go_wp2_with fail
  refine (begun_at w n HN.out.1 HN.out.2).mono ?_
  rintro e w1 ⟨gt, ct, gs, gz, rfl, hb⟩
  have HB : Hid (Begun w w1 gt ct gs gz n) := hb
  clear hb
  go_wp2_with fail
  go_ret
  have hz := HB.out.fr.size
  obtain ⟨n1, n2, n3⟩ := HB.out.new
  refine ⟨w1.heap.size + 1, gt, ct, gs, gz, w1.heap.size, rfl, ⟨?_, ?_, ?_, ?_, ?_, HB.out.ne, by simp [newP]⟩, (HB.out.fr.alloc _).alloc _, by omega, n1, n2, n3, by omega⟩
  · have := heap_alloc_new (w1.alloc (Obj.cells #[Value.int IntKind.u8 0] 5)) (Obj.cells #[.slice (some ⟨gt, 0, none⟩) 47 ct, .slice (some ⟨gs, 0, none⟩) n n, .slice (some ⟨gz, 0, none⟩) n n, .int .i64 0, .int .i64 32768, .int .i64 0, .int .i64 12, .slice (some ⟨w1.heap.size, 0, none⟩) 1 1, .bool false] 68)
    rw [World.size_alloc] at this
    exact this
  · exact (HB.out.tab.alloc _).alloc _
  · have e : (newP n).x.map (· / 2) = List.replicate n 0 := by simp [newP]
    rw [e]; exact (HB.out.st.alloc _).alloc _
  · have e : (newP n).x.map (· % 2) = List.replicate n 0 := by simp [newP]
    rw [e]; exact (HB.out.bt.alloc _).alloc _
  · exact World.ownsRow.alloc (World.ownsRow_lit (base := 0) (e := 5) (size := 1) w1 #[.int .u8 0] 1 (Nat.zero_le _) (by decide) rfl) _

set_option maxRecDepth 100000 in
set_option maxHeartbeats 1000000 in
theorem rindex_at (w : World) (br gs n : Nat) (i : Int) (_ : -9223372036854775808 ≤ i ∧ i ≤ 9223372036854775807) (h1 : 1 ≤ n) (h2 : n ≤ 131072) (e1 : w.cell? ⟨br, 1, none⟩ = some (.slice (some ⟨gs, 0, none⟩) n n)) :
    Calls Tryd.prog 65 #[.pointer (some ⟨br, 0, none⟩), .int .i64 i] w fun e w' => e = .returned (.int .i64 (placeOf i n : Nat)) ∧ w' = w := by
  have hpos : 0 < (n : Int) := by omega
  have hp : ((placeOf i n : Nat) : Int) = i % (n : Int) := by
    have := Int.emod_nonneg i (show (n : Int) ≠ 0 by omega)
    unfold placeOf; omega
  have hb := tmod_bd i n h1
  obtain ⟨k, HK⟩ : ∃ k, Hid (k = placeOf i n) := ⟨_, rfl⟩
  rw [← HK.out] at hp ⊢
  have hn0 : (n : Int) ≠ 0 := by omega
  have hn1 : ((n : Int) == 0) = false := by rw [beq_eq_false_iff_ne]; omega
  by_cases h0 : Int.tmod i n < 0
  · rw [emod_tneg i n h1 h0] at hp
    have hd : decide (i.tmod n < 0) = true := decide_eq_true h0
    have hk : i.tmod n + n = (k : Int) := hp.symm
    clear hp
    go_enter Tryd.func65, Tryd.ntmps65
    go_wp2
    all_goals first
      | (go_ret; exact ⟨rfl, rfl⟩)
      | (exfalso; omega)
  · rw [emod_tpos i n h1 h0] at hp
    have hd : decide (i.tmod n < 0) = false := decide_eq_false h0
    have hk : i.tmod n = (k : Int) := hp.symm
    clear hp
    go_enter Tryd.func65, Tryd.ntmps65
    go_wp2
    all_goals first
      | (go_ret; exact ⟨rfl, rfl⟩)
      | (exfalso; omega)

end Go.Proofs.YtllhekkclhcdbaaDoor
