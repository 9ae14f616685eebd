/- 'LendBitmap' and 'BackBitmap'. -/
import Derived.Test.YtodgdbbhllejkabCp
import Derived.BigRegion
namespace Go.Proofs.Ytodgdbbhllejkab
open Go.RowKit

def marks (l : List Nat) (k : Nat) : List Nat := l ++ List.replicate k 42405
theorem marks_zero (l : List Nat) : marks l 0 = l := by simp [marks]
theorem marks_succ (l : List Nat) (k : Nat) : marks l (k + 1) = marks l k ++ [42405] := by unfold marks; rw [List.replicate_succ', List.append_assoc]
theorem length_marks (l : List Nat) (k : Nat) : (marks l k).length = l.length + k := by simp [marks]
theorem marks_get (l : List Nat) (k : Nat) (h : k < 7) : (marks l 7)[l.length + k]? = some 42405 := by
  unfold marks
  rw [List.getElem?_append_right (by omega), show l.length + k - l.length = k from by omega, List.getElem?_replicate, if_pos h]
theorem marks_front (l : List Nat) : (marks l 7).take l.length = l := by
  unfold marks
  rw [List.take_left]
theorem row_shrink {w : World} {b e g n k cap : Nat} {xs : List Value} (h : w.ownsRow b e 1 (.slice (some ⟨g, 0, none⟩) n cap) n xs) (hk : k ≤ n) : w.ownsRow b e 1 (.slice (some ⟨g, 0, none⟩) k cap) k (xs.take k) := by
  obtain ⟨h1, h2⟩ := h
  refine ⟨by rw [List.length_take]; omega, ?_⟩
  rcases h2 with ⟨e, _⟩ | ⟨g', cap', cur, hv, hb, hg, hc, hm, hs, ht⟩
  · cases e
  · simp only [Value.slice.injEq, Option.some.injEq, Addr.mk.injEq, true_and, and_true] at hv
    obtain ⟨rfl, rfl⟩ := hv
    refine Or.inr ⟨g, cap, cur, rfl, hb, hg, by omega, hm, hs, ?_⟩
    rw [← ht, List.take_take]
    congr 1; omega

/-- Nil is nothing. -/
def NilOK (v : Value) : Prop := ∀ n c, v = .slice none n c → n = 0 ∧ c = 0

/-- Words that are lent, with marks behind them. -/
def Lent (w : World) (g : Nat) (l : List Nat) : Prop := w.ownsRow 0 23 1 (.slice (some ⟨g, 0, none⟩) (l.length + 7) (l.length + 7)) (l.length + 7) (wordCells (marks l 7))
theorem Lent.kept {S : Nat → Prop} {w w' : World} {g : Nat} {l : List Nat} (h : Lent w g l) (f : Fr S w w') (h1 : ¬ S g) : Lent w' g l :=
  row_kept h f (fun k hk => by simp [Value.ownBlock] at hk; subst hk; exact h1)
theorem Lent.lt {w : World} {g : Nat} {l : List Nat} (h : Lent w g l) : g < w.heap.size := (World.ownsRow.lt h g rfl).2
theorem Lent.seen {w : World} {g : Nat} {l : List Nat} (h : Lent w g l) (hl : l.length ≤ 1048576) : Seen w (.slice (some ⟨g, 0, none⟩) l.length (l.length + 7)) l := by
  have h1 := row_shrink (k := l.length) h (by omega)
  rw [wordCells_take, marks_front] at h1
  exact Seen.of_row h1 (by omega)

end Go.Proofs.Ytodgdbbhllejkab
