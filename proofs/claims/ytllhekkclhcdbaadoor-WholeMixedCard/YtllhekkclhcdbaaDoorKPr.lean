/- The program's coder and the document's own, side by side. -/
import Derived.Test.YtllhekkclhcdbaaDoorKReP
import Derived.Test.YtllhekkclhcdbaaDoorKReF
import Derived.Test.YtllhekkclhcdbaaDoorKIt
namespace Go.Proofs.YtllhekkclhcdbaaDoor
open Go.RowKit

/-- Apart: none of the program's blocks is one of the reference's. -/
structure Apart3 (bc gc gb br gt gs gz gq : Nat) : Prop where
  a1 : bc ≠ br ∧ bc ≠ gt ∧ bc ≠ gs ∧ bc ≠ gz ∧ bc ≠ gq
  a2 : gc ≠ br ∧ gc ≠ gt ∧ gc ≠ gs ∧ gc ≠ gz ∧ gc ≠ gq
  a3 : gb ≠ br ∧ gb ≠ gt ∧ gb ≠ gs ∧ gb ≠ gz ∧ gb ≠ gq

structure Pr (w0 w : World) (bc gc cc gb cb br gt ct gs gz n gq cq : Nat) (o : Co) : Prop where
  co : CoAt w bc gc cc gb cb o
  re : ReAt w br gt ct gs gz n gq cq o false
  fr : Fr (fun _ => False) w0 w
  big : w0.heap.size ≤ bc ∧ w0.heap.size ≤ gc ∧ w0.heap.size ≤ gb ∧ w0.heap.size ≤ br ∧ w0.heap.size ≤ gs ∧ w0.heap.size ≤ gz ∧ w0.heap.size ≤ gq
  ap : Apart3 bc gc gb br gt gs gz gq

theorem ReAt.lts {w : World} {br gt ct gs gz n gb cb : Nat} {o : Co} {d : Bool} (h : ReAt w br gt ct gs gz n gb cb o d) : br < w.heap.size ∧ gt < w.heap.size ∧ gs < w.heap.size ∧ gz < w.heap.size ∧ gb < w.heap.size :=
  ⟨h.lt, (h.tab.lt gt rfl).2, (h.st.lt gs rfl).2, (h.bt.lt gz rfl).2, (h.bs.lt gb rfl).2⟩

theorem Pr.kept {w0 w w' : World} {bc gc cc gb cb br gt ct gs gz n gq cq : Nat} {o : Co} (h : Pr w0 w bc gc cc gb cb br gt ct gs gz n gq cq o) (f : Fr (fun _ => False) w w') : Pr w0 w' bc gc cc gb cb br gt ct gs gz n gq cq o :=
  ⟨h.co.kept f (fun h => h) (fun h => h) (fun h => h), h.re.kept f (fun h => h) (fun h => h) (fun h => h) (fun h => h) (fun h => h), h.fr.trans f (fun _ _ h => h), h.big, h.ap⟩

/-- Behind the program's step. -/
theorem Pr.step1 {w0 w w' : World} {bc gc cc gb cb br gt ct gs gz n gq cq gb' : Nat} {o : Co} (h : Pr w0 w bc gc cc gb cb br gt ct gs gz n gq cq o) (c : CStep bc gc gb gb' w w') :
    ReAt w' br gt ct gs gz n gq cq o false ∧ Fr (fun _ => False) w0 w' ∧ w0.heap.size ≤ gb' ∧ Apart3 bc gc gb' br gt gs gz gq := by
  obtain ⟨g1, g2, g3, _⟩ := h.big
  obtain ⟨l1, l2, l3, l4, l5⟩ := h.re.lts
  have hsz := h.fr.size
  have s1 : w0.heap.size ≤ gb' := by rcases c.row with e | e <;> omega
  have s2 : gb' = gb ∨ (gb' ≠ br ∧ gb' ≠ gt ∧ gb' ≠ gs ∧ gb' ≠ gz ∧ gb' ≠ gq) := by
    rcases c.row with e | e
    · exact Or.inl e
    · exact Or.inr ⟨by omega, by omega, by omega, by omega, by omega⟩
  have s3 : Fr (fun _ => False) w0 w' := h.fr.trans c.fr (fun i hi e => by rcases e with e | e | e <;> omega)
  obtain ⟨⟨a1, a2, a3, a4, a5⟩, ⟨b1, b2, b3, b4, b5⟩, ⟨c1, c2, c3, c4, c5⟩⟩ := h.ap
  refine ⟨h.re.kept c.fr ?_ ?_ ?_ ?_ ?_, s3, s1, ⟨⟨a1, a2, a3, a4, a5⟩, ⟨b1, b2, b3, b4, b5⟩, ?_⟩⟩
  · exact fun e => e.elim (fun x => a1 x.symm) (fun y0 => y0.elim (fun x => b1 x.symm) (fun y1 => c1 y1.symm))
  · exact fun e => e.elim (fun x => a2 x.symm) (fun y0 => y0.elim (fun x => b2 x.symm) (fun y1 => c2 y1.symm))
  · exact fun e => e.elim (fun x => a3 x.symm) (fun y0 => y0.elim (fun x => b3 x.symm) (fun y1 => c3 y1.symm))
  · exact fun e => e.elim (fun x => a4 x.symm) (fun y0 => y0.elim (fun x => b4 x.symm) (fun y1 => c4 y1.symm))
  · exact fun e => e.elim (fun x => a5 x.symm) (fun y0 => y0.elim (fun x => b5 x.symm) (fun y1 => c5 y1.symm))
  · rcases s2 with e | e
    · rw [e]; exact ⟨c1, c2, c3, c4, c5⟩
    · exact e

/-- Behind the reference's step. -/
theorem Pr.step2 {w0 w w' : World} {bc gc cc gb cb br gt ct gs gz n gq gq' cq' : Nat} {o' : Co} (hc : CoAt w bc gc cc gb cb o') (hf : Fr (fun _ => False) w0 w)
    (big : w0.heap.size ≤ bc ∧ w0.heap.size ≤ gc ∧ w0.heap.size ≤ gb ∧ w0.heap.size ≤ br ∧ w0.heap.size ≤ gs ∧ w0.heap.size ≤ gz ∧ w0.heap.size ≤ gq) (ap : Apart3 bc gc gb br gt gs gz gq)
    (hr' : ReAt w' br gt ct gs gz n gq' cq' o' false) (c : RStep br gs gz gq gq' w w') : Pr w0 w' bc gc cc gb cb br gt ct gs gz n gq' cq' o' := by
  obtain ⟨g1, g2, g3, g4, g5, g6, g7⟩ := big
  have l1 := hc.lt
  have l2 := hc.xlt
  have l3 := hc.blt
  have hsz := hf.size
  have s1 : w0.heap.size ≤ gq' := by rcases c.row with e | e <;> omega
  have s2 : gq' = gq ∨ (bc ≠ gq' ∧ gc ≠ gq' ∧ gb ≠ gq') := by
    rcases c.row with e | e
    · exact Or.inl e
    · exact Or.inr ⟨by omega, by omega, by omega⟩
  have s3 : Fr (fun _ => False) w0 w' := hf.trans c.fr (fun i hi e => by rcases e with e | e | e | e <;> omega)
  obtain ⟨⟨a1, a2, a3, a4, a5⟩, ⟨b1, b2, b3, b4, b5⟩, ⟨c1, c2, c3, c4, c5⟩⟩ := ap
  have s4 : bc ≠ gq' ∧ gc ≠ gq' ∧ gb ≠ gq' := by
    rcases s2 with e | e
    · rw [e]; exact ⟨a5, b5, c5⟩
    · exact e
  refine ⟨hc.kept c.fr ?_ ?_ ?_, hr', s3, ⟨g1, g2, g3, g4, g5, g6, s1⟩, ⟨⟨a1, a2, a3, a4, s4.1⟩, ⟨b1, b2, b3, b4, s4.2.1⟩, ⟨c1, c2, c3, c4, s4.2.2⟩⟩⟩
  · exact fun e => e.elim (fun x => a1 x) (fun y0 => y0.elim (fun x => a3 x) (fun y1 => y1.elim (fun x => a4 x) (fun y2 => a5 y2)))
  · exact fun e => e.elim (fun x => b1 x) (fun y0 => y0.elim (fun x => b3 x) (fun y1 => y1.elim (fun x => b4 x) (fun y2 => b5 y2)))
  · exact fun e => e.elim (fun x => c1 x) (fun y0 => y0.elim (fun x => c3 x) (fun y1 => y1.elim (fun x => c4 x) (fun y2 => c5 y2)))

end Go.Proofs.YtllhekkclhcdbaaDoor
