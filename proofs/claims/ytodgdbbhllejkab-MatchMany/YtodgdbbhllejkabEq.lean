/- 'Clone', 'Plain', 'EqWords', 'EqBitmap'. -/
import Derived.Test.YtodgdbbhllejkabMake
import Derived.Lib.SliceRun
import Derived.Deep.RegionHeld3
import Derived.Handy
import Derived.Test.YtodgdbbhllejkabLine
namespace Go.Proofs.Ytodgdbbhllejkab
open Go.RowKit

/-- Words that a slice shows. -/
def Seen (w : World) (v : Value) (l : List Nat) : Prop := ∃ ao cap, v = .slice ao l.length cap ∧ l.length ≤ 9223372036854775807 ∧ (l ≠ [] → ∃ b off, ao = some ⟨b, off, none⟩ ∧ ∀ j, j < l.length → w.cell? ⟨b, off + j, none⟩ = some (.int .u64 (l[j]?.getD 0 : Nat)))
theorem Seen.of_row {w : World} {base : Nat} {v : Value} {l : List Nat} (h : w.ownsRow base 23 1 v l.length (wordCells l)) (hl : l.length ≤ 9223372036854775807) : Seen w v l := by
  rcases h.2 with ⟨rfl, e⟩ | ⟨g, cap, cur, rfl, _⟩
  · exact ⟨none, 0, by rw [e], hl, fun hn => absurd (List.eq_nil_of_length_eq_zero e) hn⟩
  · refine ⟨some ⟨g, 0, none⟩, cap, rfl, hl, fun _ => ⟨g, 0, rfl, fun j hj => ?_⟩⟩
    rw [Nat.zero_add, h.cellAt j (by omega), wordCells_get, List.getElem?_eq_getElem hj]
    rfl

theorem Seen.kept {S : Nat → Prop} {w w' : World} {v : Value} {l : List Nat} (h : Seen w v l) (f : Fr S w w') (hs : ∀ b, b < w.heap.size → ¬ S b := by intro _ _ hh; exact hh) : Seen w' v l := by
  obtain ⟨ao, cap, e, hl, hc⟩ := h
  refine ⟨ao, cap, e, hl, fun hn => ?_⟩
  obtain ⟨b, off, e2, hcc⟩ := hc hn
  refine ⟨b, off, e2, fun j hj => ?_⟩
  have hb : b < w.heap.size := by
    have := hcc j hj
    unfold World.cell? at this
    rcases Nat.lt_or_ge b w.heap.size with h | h
    · exact h
    · rw [Array.getElem?_eq_none h] at this; simp at this
  rw [f.cellEq hb (hs b hb)]
  exact hcc j hj

theorem row_out {w : World} {base n : Nat} {v : Value} {xs : List Value} (h : w.ownsRow base 23 1 v n xs) (hn : v ≠ .slice none 0 0) : ∃ g cap, v = .slice (some ⟨g, 0, none⟩) n cap ∧ base ≤ g := by
  rcases h.2 with ⟨rfl, e⟩ | ⟨g, cap, cur, rfl, hb, _⟩
  · exact absurd rfl hn
  · exact ⟨g, cap, rfl, hb⟩

theorem take_succ_eq {a b : List Nat} {k : Nat} (h : a.take k = b.take k) (ha : k < a.length) (hb : k < b.length) (he : a[k]?.getD 0 = b[k]?.getD 0) : a.take (k + 1) = b.take (k + 1) := by
  rw [List.take_succ_eq_append_getElem ha, List.take_succ_eq_append_getElem hb, h]
  rw [List.getElem?_eq_getElem ha, List.getElem?_eq_getElem hb] at he
  simp only [Option.getD_some] at he
  rw [he]

end Go.Proofs.Ytodgdbbhllejkab
