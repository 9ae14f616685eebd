/- The reference's coder: its registers written. -/
import Derived.Test.YtllhekkclhcdbaaDoorReL
namespace Go.Proofs.YtllhekkclhcdbaaDoor
open Go.RowKit

theorem ReAt.nes {w : World} {br gt ct gs gz n gb cb : Nat} {o : Co} {d : Bool} (h : ReAt w br gt ct gs gz n gb cb o d) : gt ≠ br ∧ gs ≠ br ∧ gz ≠ br ∧ gb ≠ br ∧ gs ≠ gt ∧ gz ≠ gt ∧ gb ≠ gt ∧ gb ≠ gs ∧ gb ≠ gz :=
  ⟨row_nb h.tab rfl h.blk (by decide), row_nb h.st rfl h.blk (by decide), row_nb h.bt rfl h.blk (by decide), row_nb h.bs rfl h.blk (by decide), row_ne h.st h.tab rfl rfl (by decide), row_ne h.bt h.tab rfl rfl (by decide), row_ne h.bs h.tab rfl rfl (by decide), row_ne h.bs h.st rfl rfl (by decide), row_ne h.bs h.bt rfl rfl (by decide)⟩

theorem ReAt.reg {w : World} {br gt ct gs gz n gb cb : Nat} {o o' : Co} {d d' : Bool} (h : ReAt w br gt ct gs gz n gb cb o d) (j : Nat) (u : Value) (hx : o'.x = o.x) (hbb : o'.s.b = o.s.b) (hbl : o'.s.l = o.s.l)
    (hb : (#[.slice (some ⟨gt, 0, none⟩) 47 ct, .slice (some ⟨gs, 0, none⟩) n n, .slice (some ⟨gz, 0, none⟩) n n, .int .i64 (o.made : Nat), .int .i64 (o.s.a : Nat), .int .i64 (o.s.c : Nat), .int .i64 (o.s.t : Nat), .slice (some ⟨gb, 0, none⟩) (o.s.b.length + 1) cb, .bool d] : Array Value).setIfInBounds j u = #[.slice (some ⟨gt, 0, none⟩) 47 ct, .slice (some ⟨gs, 0, none⟩) n n, .slice (some ⟨gz, 0, none⟩) n n, .int .i64 (o'.made : Nat), .int .i64 (o'.s.a : Nat), .int .i64 (o'.s.c : Nat), .int .i64 (o'.s.t : Nat), .slice (some ⟨gb, 0, none⟩) (o.s.b.length + 1) cb, .bool d']) :
    ReAt (w.setCell ⟨br, j, none⟩ u) br gt ct gs gz n gb cb o' d' := by
  have f := Fr.set1 w br j u
  obtain ⟨n1, n2, n3, n4, _⟩ := h.nes
  refine ⟨?_, row_kept1 h.tab f n1, ?_, ?_, ?_, h.ne, by rw [hx]; exact h.len⟩
  · rw [seven_set h.blk, hb, hbb]
  · rw [hx]; exact row_kept1 h.st f n2
  · rw [hx]; exact row_kept1 h.bt f n3
  · have e : o'.s.bytes = o.s.bytes := by unfold Cs.bytes; rw [hbb, hbl]
    rw [e, hbb]; exact row_kept1 h.bs f n4
theorem ReAt.setMade {w : World} {br gt ct gs gz n gb cb : Nat} {o : Co} {d : Bool} (h : ReAt w br gt ct gs gz n gb cb o d) (v : Nat) : ReAt (w.setCell ⟨br, 3, none⟩ (.int .i64 (v : Int))) br gt ct gs gz n gb cb { o with made := v } d := h.reg 3 _ rfl rfl rfl rfl
theorem ReAt.setA {w : World} {br gt ct gs gz n gb cb : Nat} {o : Co} {d : Bool} (h : ReAt w br gt ct gs gz n gb cb o d) (v : Nat) : ReAt (w.setCell ⟨br, 4, none⟩ (.int .i64 (v : Int))) br gt ct gs gz n gb cb { o with s := { o.s with a := v } } d := h.reg 4 _ rfl rfl rfl rfl
theorem ReAt.setC {w : World} {br gt ct gs gz n gb cb : Nat} {o : Co} {d : Bool} (h : ReAt w br gt ct gs gz n gb cb o d) (v : Nat) : ReAt (w.setCell ⟨br, 5, none⟩ (.int .i64 (v : Int))) br gt ct gs gz n gb cb { o with s := { o.s with c := v } } d := h.reg 5 _ rfl rfl rfl rfl
theorem ReAt.setT {w : World} {br gt ct gs gz n gb cb : Nat} {o : Co} {d : Bool} (h : ReAt w br gt ct gs gz n gb cb o d) (v : Nat) : ReAt (w.setCell ⟨br, 6, none⟩ (.int .i64 (v : Int))) br gt ct gs gz n gb cb { o with s := { o.s with t := v } } d := h.reg 6 _ rfl rfl rfl rfl
theorem ReAt.setDone {w : World} {br gt ct gs gz n gb cb : Nat} {o : Co} {d : Bool} (h : ReAt w br gt ct gs gz n gb cb o d) : ReAt (w.setCell ⟨br, 8, none⟩ (.bool true)) br gt ct gs gz n gb cb o true := h.reg 8 _ rfl rfl rfl rfl
/-- A context: its state, its likelier bit. -/
theorem ReAt.setX {w : World} {br gt ct gs gz n gb cb : Nat} {o : Co} {d : Bool} (h : ReAt w br gt ct gs gz n gb cb o d) (k v : Nat) : ReAt ((w.setCell ⟨gz, k, none⟩ (.int .i64 ((v % 2 : Nat) : Int))).setCell ⟨gs, k, none⟩ (.int .i64 ((v / 2 : Nat) : Int))) br gt ct gs gz n gb cb { o with x := o.x.set k v } d := by
  obtain ⟨n1, n2, n3, n4, n5, n6, n7, n8, n9⟩ := h.nes
  have f1 := Fr.set1 w gz k (.int .i64 ((v % 2 : Nat) : Int))
  have f2 := Fr.set1 (w.setCell ⟨gz, k, none⟩ (.int .i64 ((v % 2 : Nat) : Int))) gs k (.int .i64 ((v / 2 : Nat) : Int))
  have f : Fr (fun j => j = gz ∨ j = gs) w ((w.setCell ⟨gz, k, none⟩ (.int .i64 ((v % 2 : Nat) : Int))).setCell ⟨gs, k, none⟩ (.int .i64 ((v / 2 : Nat) : Int))) :=
    (f1.mono (fun _ _ e => Or.inl e)).trans f2 (fun _ _ e => Or.inr e)
  refine ⟨?_, row_kept1 h.tab f (by rintro (e | e); exact n6 e.symm; exact n5 e.symm), ?_, ?_, row_kept1 h.bs f (by rintro (e | e); exact n9 e; exact n8 e), h.ne, by simp only [List.length_set]; exact h.len⟩
  · rw [f.block br h.lt (by rintro (e | e); exact n3 e.symm; exact n2 e.symm)]; exact h.blk
  · have := ((row_kept1 h.st f1 h.ne).stored k (.int .i64 ((v / 2 : Nat) : Int))).1
    rw [intCells_set] at this
    simp only [List.map_set]; exact this
  · have := (h.bt.stored k (.int .i64 ((v % 2 : Nat) : Int))).1
    rw [intCells_set] at this
    have k2 := row_kept1 this f2 (Ne.symm h.ne)
    simp only [List.map_set]; exact k2
theorem ReAt.setL {w : World} {br gt ct gs gz n gb cb : Nat} {o : Co} {d : Bool} (h : ReAt w br gt ct gs gz n gb cb o d) (v : Nat) : ReAt (w.setCell ⟨gb, o.s.b.length, none⟩ (.int .u8 (v : Int))) br gt ct gs gz n gb cb { o with s := { o.s with l := v } } d := by
  obtain ⟨n1, n2, n3, n4, n5, n6, n7, n8, n9⟩ := h.nes
  have f := Fr.set1 w gb o.s.b.length (.int .u8 (v : Int))
  refine ⟨?_, row_kept1 h.tab f (Ne.symm n7), row_kept1 h.st f (Ne.symm n8), row_kept1 h.bt f (Ne.symm n9), ?_, h.ne, h.len⟩
  · rw [f.block br h.lt (Ne.symm n4)]; exact h.blk
  · have := (h.bs.stored o.s.b.length (.int .u8 (v : Int))).1
    rw [byteCells_set] at this
    have e : o.s.bytes.set o.s.b.length v = ({ o.s with l := v } : Cs).bytes := by simp [Cs.bytes]
    rw [e] at this; exact this

end Go.Proofs.YtllhekkclhcdbaaDoor
