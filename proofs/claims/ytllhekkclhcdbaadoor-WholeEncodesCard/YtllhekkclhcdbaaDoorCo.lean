/- A coder in memory. -/
import Derived.Test.YtllhekkclhcdbaaDoorCell
namespace Go.Proofs.YtllhekkclhcdbaaDoor
open Go.RowKit

/-- A coder: its block bc, its contexts' block gc, its bytes' block gb. -/
structure CoAt (w : World) (bc gc cc gb cb : Nat) (o : Co) : Prop where
  blk : w.heap[bc]? = some (.cells #[.slice (some ⟨gc, 0, none⟩) o.x.length cc, .int .i64 (o.made : Nat), .int .u32 (o.s.a : Nat), .int .u32 (o.s.c : Nat), .int .i64 (o.s.t : Nat), .slice (some ⟨gb, 0, none⟩) (o.s.b.length + 1) cb, .bool false] 62 (0, 0))
  xs : w.ownsRow 0 100 1 (.slice (some ⟨gc, 0, none⟩) o.x.length cc) o.x.length (byteCells o.x)
  bs : w.ownsRow 0 5 1 (.slice (some ⟨gb, 0, none⟩) (o.s.b.length + 1) cb) (o.s.b.length + 1) (byteCells o.s.bytes)

theorem CoAt.lt {w : World} {bc gc cc gb cb : Nat} {o : Co} (h : CoAt w bc gc cc gb cb o) : bc < w.heap.size := lt_of_block h.blk
theorem CoAt.xlt {w : World} {bc gc cc gb cb : Nat} {o : Co} (h : CoAt w bc gc cc gb cb o) : gc < w.heap.size := (h.xs.lt gc rfl).2
theorem CoAt.blt {w : World} {bc gc cc gb cb : Nat} {o : Co} (h : CoAt w bc gc cc gb cb o) : gb < w.heap.size := (h.bs.lt gb rfl).2
theorem CoAt.nex {w : World} {bc gc cc gb cb : Nat} {o : Co} (h : CoAt w bc gc cc gb cb o) : gc ≠ bc := by
  intro e; subst e
  obtain ⟨cur, hg⟩ := row_type h.xs
  rw [h.blk] at hg; simp at hg
theorem CoAt.neb {w : World} {bc gc cc gb cb : Nat} {o : Co} (h : CoAt w bc gc cc gb cb o) : gb ≠ bc := by
  intro e; subst e
  obtain ⟨cur, hg⟩ := row_type h.bs
  rw [h.blk] at hg; simp at hg
theorem CoAt.nexb {w : World} {bc gc cc gb cb : Nat} {o : Co} (h : CoAt w bc gc cc gb cb o) : gb ≠ gc := by
  intro e; subst e
  obtain ⟨cur, hg⟩ := row_type h.bs
  obtain ⟨cur', hg'⟩ := row_type h.xs
  rw [hg'] at hg; simp at hg
theorem CoAt.kept {w w' : World} {bc gc cc gb cb : Nat} {o : Co} {S : Nat → Prop} (h : CoAt w bc gc cc gb cb o) (f : Fr S w w') (h1 : ¬ S bc) (h2 : ¬ S gc) (h3 : ¬ S gb) : CoAt w' bc gc cc gb cb o :=
  ⟨by rw [f.block bc h.lt h1]; exact h.blk, row_kept1 h.xs f h2, row_kept1 h.bs f h3⟩
theorem CoAt.drewN {w : World} {bc gc cc gb cb : Nat} {o : Co} (h : CoAt w bc gc cc gb cb o) (n : Nat) : CoAt (w.drewN n) bc gc cc gb cb o :=
  h.kept (S := fun _ => False) ((Fr.refl _ _).drewN n) (fun hh => hh) (fun hh => hh) (fun hh => hh)

/-- What a step of the coder may touch. -/
structure CStep (bc gc gb gb' : Nat) (w w' : World) : Prop where
  fr : Fr (fun k => k = bc ∨ k = gc ∨ k = gb) w w'
  row : gb' = gb ∨ w.heap.size ≤ gb'

theorem CStep.refl (bc gc gb : Nat) (w : World) : CStep bc gc gb gb w w := ⟨Fr.refl _ _, Or.inl rfl⟩
theorem CStep.trans {bc gc gb gb1 gb2 : Nat} {w w1 w2 : World} (h : CStep bc gc gb gb1 w w1) (k : CStep bc gc gb1 gb2 w1 w2) : CStep bc gc gb gb2 w w2 := by
  refine ⟨h.fr.trans k.fr ?_, ?_⟩
  · rintro i hi (e | e | e)
    · exact Or.inl e
    · exact Or.inr (Or.inl e)
    · rcases h.row with r | r
      · exact Or.inr (Or.inr (r ▸ e))
      · omega
  · have hsz := h.fr.size
    rcases k.row with q | q
    · rcases h.row with r | r
      · exact Or.inl (q.trans r)
      · exact Or.inr (by omega)
    · exact Or.inr (by omega)
theorem CStep.drewN {bc gc gb gb' : Nat} {w w' : World} (h : CStep bc gc gb gb' w w') (n : Nat) : CStep bc gc gb gb' w (w'.drewN n) := ⟨h.fr.drewN n, h.row⟩
theorem CStep.of_fr {bc gc gb : Nat} {w w' : World} (h : Fr (fun k => k = bc ∨ k = gc ∨ k = gb) w w') : CStep bc gc gb gb w w' := ⟨h, Or.inl rfl⟩

theorem Fr.set1 (w : World) (b j : Nat) (u : Value) : Fr (fun k => k = b) w (w.setCell ⟨b, j, none⟩ u) := Fr.setCell (Fr.refl (fun k => k = b) w) (p := ⟨b, j, none⟩) (fun _ => rfl) u

/-- A register is written. -/
theorem CoAt.setA {w : World} {bc gc cc gb cb : Nat} {o : Co} (h : CoAt w bc gc cc gb cb o) (v : Nat) : CoAt (w.setCell ⟨bc, 2, none⟩ (.int .u32 (v : Int))) bc gc cc gb cb { o with s := { o.s with a := v } } := by
  have f : Fr (fun k => k = bc) w (w.setCell ⟨bc, 2, none⟩ (.int .u32 (v : Int))) := Fr.set1 _ _ _ _
  exact ⟨by rw [seven_set h.blk]; rfl, row_kept1 h.xs f h.nex, row_kept1 h.bs f h.neb⟩
theorem CoAt.setC {w : World} {bc gc cc gb cb : Nat} {o : Co} (h : CoAt w bc gc cc gb cb o) (v : Nat) : CoAt (w.setCell ⟨bc, 3, none⟩ (.int .u32 (v : Int))) bc gc cc gb cb { o with s := { o.s with c := v } } := by
  have f : Fr (fun k => k = bc) w (w.setCell ⟨bc, 3, none⟩ (.int .u32 (v : Int))) := Fr.set1 _ _ _ _
  exact ⟨by rw [seven_set h.blk]; rfl, row_kept1 h.xs f h.nex, row_kept1 h.bs f h.neb⟩
theorem CoAt.setT {w : World} {bc gc cc gb cb : Nat} {o : Co} (h : CoAt w bc gc cc gb cb o) (v : Nat) : CoAt (w.setCell ⟨bc, 4, none⟩ (.int .i64 (v : Int))) bc gc cc gb cb { o with s := { o.s with t := v } } := by
  have f : Fr (fun k => k = bc) w (w.setCell ⟨bc, 4, none⟩ (.int .i64 (v : Int))) := Fr.set1 _ _ _ _
  exact ⟨by rw [seven_set h.blk]; rfl, row_kept1 h.xs f h.nex, row_kept1 h.bs f h.neb⟩
theorem CoAt.setMade {w : World} {bc gc cc gb cb : Nat} {o : Co} (h : CoAt w bc gc cc gb cb o) (v : Nat) : CoAt (w.setCell ⟨bc, 1, none⟩ (.int .i64 (v : Int))) bc gc cc gb cb { o with made := v } := by
  have f : Fr (fun k => k = bc) w (w.setCell ⟨bc, 1, none⟩ (.int .i64 (v : Int))) := Fr.set1 _ _ _ _
  exact ⟨by rw [seven_set h.blk]; rfl, row_kept1 h.xs f h.nex, row_kept1 h.bs f h.neb⟩
/-- A context is written. -/
theorem CoAt.setX {w : World} {bc gc cc gb cb : Nat} {o : Co} (h : CoAt w bc gc cc gb cb o) (k v : Nat) : CoAt (w.setCell ⟨gc, k, none⟩ (.int .u8 (v : Int))) bc gc cc gb cb { o with x := o.x.set k v } := by
  have f : Fr (fun k => k = gc) w (w.setCell ⟨gc, k, none⟩ (.int .u8 (v : Int))) := Fr.set1 _ _ _ _
  refine ⟨?_, ?_, row_kept1 h.bs f h.nexb⟩
  · rw [f.block bc h.lt (fun e => h.nex e.symm), List.length_set]; exact h.blk
  · have := (h.xs.stored k (.int .u8 (v : Int))).1
    rw [byteCells_set] at this
    rw [List.length_set]; exact this
/-- The last byte is written. -/
theorem CoAt.setL {w : World} {bc gc cc gb cb : Nat} {o : Co} (h : CoAt w bc gc cc gb cb o) (v : Nat) : CoAt (w.setCell ⟨gb, o.s.b.length, none⟩ (.int .u8 (v : Int))) bc gc cc gb cb { o with s := { o.s with l := v } } := by
  have f : Fr (fun k => k = gb) w (w.setCell ⟨gb, o.s.b.length, none⟩ (.int .u8 (v : Int))) := Fr.set1 _ _ _ _
  refine ⟨?_, row_kept1 h.xs f (fun e => h.nexb e.symm), ?_⟩
  · rw [f.block bc h.lt (fun e => h.neb e.symm)]; exact h.blk
  · have := (h.bs.stored o.s.b.length (.int .u8 (v : Int))).1
    rw [byteCells_set] at this
    have e : o.s.bytes.set o.s.b.length v = ({ o.s with l := v } : Cs).bytes := by simp [Cs.bytes]
    rw [e] at this; exact this
theorem CoAt.last {w : World} {bc gc cc gb cb : Nat} {o : Co} (h : CoAt w bc gc cc gb cb o) : w.cell? ⟨gb, o.s.b.length, none⟩ = some (.int .u8 (o.s.l : Int)) := by
  rw [h.bs.cellAt _ (by omega), byteCells_get]; simp [Cs.bytes]
theorem CoAt.ctx {w : World} {bc gc cc gb cb : Nat} {o : Co} (h : CoAt w bc gc cc gb cb o) {k : Nat} (hk : k < o.x.length) : w.cell? ⟨gc, k, none⟩ = some (.int .u8 (o.x.getD k 0 : Nat)) := by
  rw [h.xs.cellAt _ (by omega), byteCells_get, List.getD_eq_getElem?_getD, List.getElem?_eq_getElem hk]; rfl

end Go.Proofs.YtllhekkclhcdbaaDoor
