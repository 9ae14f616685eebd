/- What one round of 'lay' makes of a writer. -/
import Derived.Test.YtamonbkhpbdojaaDoorFrame
namespace Go.Proofs.YtamonbkhpbdojaaDoor
set_option maxRecDepth 100000
open Go.RowKit

theorem WAt.filled {wr : World} {bw g cap most : Nat} {cs : List Bool} {m step : Nat} {X S : Int} (h : WAt wr bw (.slice (some ⟨g, 0, none⟩) ((cs.length + 7) / 8) cap) most cs)
    (hst : step + cs.length % 8 ≤ 8) (hs : 0 < step) (hu : cs.length % 8 ≠ 0) (hroom : cs.length + step ≤ 8 * most)
    (hX : X = ((byteAt cs (cs.length / 8) ||| (m % 256 * 2 ^ (8 - step) % 256 / 2 ^ (cs.length % 8)) : Nat) : Int)) (hS : S = ((cs.length + step : Nat) : Int)) :
    WAt ((wr.setCell ⟨g, (cs.length + 7) / 8 - 1, none⟩ (.int .u8 X)).setCell ⟨bw, 1, none⟩ (.int .i64 S)) bw (.slice (some ⟨g, 0, none⟩) ((cs.length + 7) / 8) cap) most (cs ++ bitsOf m step) ∧
    WStep bw (.slice (some ⟨g, 0, none⟩) ((cs.length + 7) / 8) cap) (.slice (some ⟨g, 0, none⟩) ((cs.length + 7) / 8) cap) wr ((wr.setCell ⟨g, (cs.length + 7) / 8 - 1, none⟩ (.int .u8 X)).setCell ⟨bw, 1, none⟩ (.int .i64 S)) := by
  subst hX; subst hS
  have hgne : g ≠ bw := fun e => h.rowne (by simp [Value.ownBlock, e])
  have hl : (cs ++ bitsOf m step).length = cs.length + step := by simp [length_bitsOf]
  have hq : ((cs ++ bitsOf m step).length + 7) / 8 = (cs.length + 7) / 8 := by rw [hl]; omega
  refine ⟨⟨?_, ?_, by rw [hl]; exact hroom, h.lim⟩, ⟨?_, Or.inl rfl⟩⟩
  · rw [hl]
    refine three_set1 (y := .int .i64 (cs.length : Int)) ?_
    rw [Below.heap_setCell _ _ _ _ (by simpa using hgne.symm)]
    exact h.blk
  · have hst2 := (h.own.stored ((cs.length + 7) / 8 - 1) (.int .u8 ((byteAt cs (cs.length / 8) ||| (m % 256 * 2 ^ (8 - step) % 256 / 2 ^ (cs.length % 8)) : Nat) : Int))).1
    rw [byteCells_set, ← pack_fill cs m step hst hs hu] at hst2
    rw [hq]
    exact ownsRow_setCell_other hst2 (by simp [Value.ownBlock, hgne]) _
  · exact ((Fr.refl _ _).setCell (fun _ => by simp [Value.ownBlock]) _).setCell (fun _ => Or.inl rfl) _

theorem WAt.begun {wr w1 : World} {bw : Nat} {v : Value} {most : Nat} {cs : List Bool} {g' cap' m step : Nat} {X S : Int} {o : Obj} (h : WAt wr bw v most cs)
    (hown : w1.ownsRow 0 5 1 (.slice (some ⟨g', 0, none⟩) ((cs.length + 7) / 8 + 1) cap') ((cs.length + 7) / 8 + 1) (byteCells (pack cs) ++ [.int .u8 0])) (hg : (wr.alloc o).grownBy w1 v.ownBlock) (hrow : v.ownBlock = some g' ∨ wr.heap.size < g')
    (hst : step ≤ 8) (hs : 0 < step) (hu : cs.length % 8 = 0) (hroom : cs.length + step ≤ 8 * most)
    (hX : X = ((0 ||| (m % 256 * 2 ^ (8 - step) % 256 / 2 ^ (0 : Nat)) : Nat) : Int)) (hS : S = ((cs.length + step : Nat) : Int)) :
    WAt (((w1.setCell ⟨bw, 2, none⟩ (.slice (some ⟨g', 0, none⟩) ((cs.length + 7) / 8 + 1) cap')).setCell ⟨g', (cs.length + 7) / 8, none⟩ (.int .u8 X)).setCell ⟨bw, 1, none⟩ (.int .i64 S)) bw (.slice (some ⟨g', 0, none⟩) ((cs.length + 7) / 8 + 1) cap') most (cs ++ bitsOf m step) ∧
    WStep bw v (.slice (some ⟨g', 0, none⟩) ((cs.length + 7) / 8 + 1) cap') wr (((w1.setCell ⟨bw, 2, none⟩ (.slice (some ⟨g', 0, none⟩) ((cs.length + 7) / 8 + 1) cap')).setCell ⟨g', (cs.length + 7) / 8, none⟩ (.int .u8 X)).setCell ⟨bw, 1, none⟩ (.int .i64 S)) := by
  subst hX; subst hS
  have hlt := h.lt
  have hgne : g' ≠ bw := by
    rcases hrow with e | e
    · intro e2; exact h.rowne (e.trans (by rw [e2]))
    · omega
  have hblk : w1.heap[bw]? = some (.cells #[.int .i64 (8 * (most : Int)), .int .i64 (cs.length : Int), v] 93 (0, 0)) := by
    rw [hg.block bw (by simp; omega) (fun e => h.rowne e.symm), Below.heap_alloc _ _ _ hlt]; exact h.blk
  have hl : (cs ++ bitsOf m step).length = cs.length + step := by simp [length_bitsOf]
  have hq : ((cs ++ bitsOf m step).length + 7) / 8 = (cs.length + 7) / 8 + 1 := by rw [hl]; omega
  refine ⟨⟨?_, ?_, by rw [hl]; exact hroom, h.lim⟩, ⟨?_, ?_⟩⟩
  · rw [hl]
    refine three_set1 (y := .int .i64 (cs.length : Int)) ?_
    rw [Below.heap_setCell _ _ _ _ (by simpa using hgne.symm)]
    exact three_set2 hblk
  · have h2 := ownsRow_setCell_other hown (a := ⟨bw, 2, none⟩) (by simp [Value.ownBlock, hgne]) (.slice (some ⟨g', 0, none⟩) ((cs.length + 7) / 8 + 1) cap')
    have hst2 := (h2.stored ((cs.length + 7) / 8) (.int .u8 ((0 ||| (m % 256 * 2 ^ (8 - step) % 256 / 2 ^ (0 : Nat)) : Nat) : Int))).1
    have e0 : byteCells (pack cs) ++ [.int .u8 0] = byteCells (pack cs ++ [0]) := by simp [byteCells]
    have hp := pack_new cs m step hst hs hu
    simp only [Nat.add_sub_cancel] at hp
    rw [e0, byteCells_set, ← hp] at hst2
    rw [hq]
    exact ownsRow_setCell_other hst2 (by simp [Value.ownBlock, hgne]) _
  · have f1 : Fr (fun k => k = bw ∨ v.ownBlock = some k) wr w1 := ((Fr.refl _ _).alloc o).grown hg (fun k hk _ => Or.inr hk)
    have f2 := f1.setCell (p := ⟨bw, 2, none⟩) (fun _ => Or.inl rfl) (.slice (some ⟨g', 0, none⟩) ((cs.length + 7) / 8 + 1) cap')
    have hk : g' < wr.heap.size → (g' = bw ∨ v.ownBlock = some g') := fun hk => by
      rcases hrow with e | e
      · exact Or.inr e
      · omega
    have f3 := f2.setCell (p := ⟨g', (cs.length + 7) / 8, none⟩) hk (.int .u8 ((0 ||| (m % 256 * 2 ^ (8 - step) % 256 / 2 ^ (0 : Nat)) : Nat) : Int))
    exact f3.setCell (p := ⟨bw, 1, none⟩) (fun _ => Or.inl rfl) _
  · rcases hrow with e | e
    · exact Or.inl (by rw [e]; rfl)
    · exact Or.inr (fun k hk => by simp [Value.ownBlock] at hk; omega)

/-- The numbers as the walk writes them. -/
theorem fill_num (x m s u : Nat) (hx : x < 256) (hm : m < 256) : bits .or .u8 (x : Int) ((m : Int) * 2 ^ s % 256 / 2 ^ u) = ((x ||| (m % 256 * 2 ^ s % 256 / 2 ^ u) : Nat) : Int) := by
  have e : ((m : Int) * 2 ^ s % 256 / 2 ^ u) = ((m % 256 * 2 ^ s % 256 / 2 ^ u : Nat) : Int) := by
    rw [Nat.mod_eq_of_lt hm]; simp
  rw [e]
  refine or_u8 _ _ hx ?_
  have : m % 256 * 2 ^ s % 256 < 256 := Nat.mod_lt _ (by omega)
  exact Nat.lt_of_le_of_lt (Nat.div_le_self _ _) this

theorem fill_num0 (m s : Nat) (hm : m < 256) : bits .or .u8 0 ((m : Int) * 2 ^ s % 256) = ((0 ||| (m % 256 * 2 ^ s % 256 / 2 ^ (0 : Nat)) : Nat) : Int) := by
  have := fill_num 0 m s 0 (by omega) hm
  simpa using this

end Go.Proofs.YtamonbkhpbdojaaDoor
