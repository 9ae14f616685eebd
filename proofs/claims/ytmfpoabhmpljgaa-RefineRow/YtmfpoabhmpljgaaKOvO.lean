/- 'Over': bytes of a slice that begins anywhere in its block. -/
import Derived.ArgAppend
import Derived.Test.YtmfpoabhmpljgaaKOvB
namespace Go.Proofs.Ytmfpoabhmpljgaa
open Go.RowKit

/-- Cells that are there and are not frozen. -/
def Free (w : World) (g off cap : Nat) : Prop := ∀ j, j < cap → (∃ x, w.cell? ⟨g, off + j, none⟩ = some x) ∧ w.frozen? ⟨g, off + j, none⟩ = false
theorem Free.set {w : World} {g off cap : Nat} (h : Free w g off cap) (p : Addr) (u : Value) : Free (w.setCell p u) g off cap := fun j hj => by
  obtain ⟨⟨x, hx⟩, hf⟩ := h j hj
  obtain ⟨y, hy⟩ := cell?_setCell_some (p := p) (x := u) hx
  exact ⟨⟨y, hy⟩, by rw [World.frozen?_setCell]; exact hf⟩
theorem Fr.setCells {S : Nat → Prop} {a : World} {g : Nat} (hg : S g) : ∀ (vs : List Value) (o : Nat) (b : World), Fr S a b → Fr S a (b.setCells g o vs)
  | [], _, _, h => h
  | v :: vs, o, _, h => Fr.setCells hg vs (o + 1) _ (h.setCell (p := ⟨g, o, none⟩) (fun _ => hg) v)

end Go.Proofs.Ytmfpoabhmpljgaa
