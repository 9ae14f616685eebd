/- A writer that is cut back to a beginning of its bits. -/
import Derived.Test.YtamonbkhpbdojaaDoorVar
namespace Go.Proofs.YtamonbkhpbdojaaDoor
set_option maxRecDepth 100000
open Go.RowKit

theorem row_shrink {w : World} {b e g n k cap : Nat} {xs : List Value} (h : w.ownsRow b e 1 (.slice (some ⟨g, 0, none⟩) n cap) n xs) (hk : k ≤ n) : w.ownsRow b e 1 (.slice (some ⟨g, 0, none⟩) k cap) k (xs.take k) := by
  obtain ⟨h1, h2⟩ := h
  refine ⟨by rw [List.length_take]; omega, ?_⟩
  rcases h2 with ⟨e, _⟩ | ⟨g', cap', cur, hv, hb, hg, hc, hm, hs, ht⟩
  · cases e
  · simp only [Value.slice.injEq, Option.some.injEq, Addr.mk.injEq, true_and, and_true] at hv
    obtain ⟨rfl, rfl⟩ := hv
    refine Or.inr ⟨g, cap, cur, rfl, hb, hg, by omega, hm, hs, ?_⟩
    rw [← ht, List.take_take]
    congr 1; omega

theorem byteCells_take (l : List Nat) (k : Nat) : (byteCells l).take k = byteCells (l.take k) := by simp [byteCells, List.map_take]

theorem WAt.cut0 {w : World} {bw g cap most : Nat} {bs ext : List Bool} {S : Int} (h : WAt w bw (.slice (some ⟨g, 0, none⟩) (((bs ++ ext).length + 7) / 8) cap) most (bs ++ ext)) (hu : bs.length % 8 = 0) (hS : S = (bs.length : Int)) :
    WAt ((w.setCell ⟨bw, 1, none⟩ (.int .i64 S)).setCell ⟨bw, 2, none⟩ (.slice (some ⟨g, 0, none⟩) ((bs.length + 7) / 8) cap)) bw (.slice (some ⟨g, 0, none⟩) ((bs.length + 7) / 8) cap) most bs ∧
    WStep bw (.slice (some ⟨g, 0, none⟩) (((bs ++ ext).length + 7) / 8) cap) (.slice (some ⟨g, 0, none⟩) ((bs.length + 7) / 8) cap) w ((w.setCell ⟨bw, 1, none⟩ (.int .i64 S)).setCell ⟨bw, 2, none⟩ (.slice (some ⟨g, 0, none⟩) ((bs.length + 7) / 8) cap)) := by
  subst hS
  have hgne : g ≠ bw := fun e => h.rowne (by simp [Value.ownBlock, e])
  have hle := h.le
  rw [List.length_append] at hle
  refine ⟨⟨three_set2 (three_set1 h.blk), ?_, by omega, h.lim⟩, ⟨((Fr.refl _ _).setCell (fun _ => Or.inl rfl) _).setCell (fun _ => Or.inl rfl) _, Or.inl rfl⟩⟩
  have h2 := row_shrink (k := (bs.length + 7) / 8) h.own (by rw [List.length_append]; omega)
  rw [byteCells_take, ← pack_cut0 bs ext hu] at h2
  exact ownsRow_setCell_other (ownsRow_setCell_other h2 (by simp [Value.ownBlock, hgne]) _) (by simp [Value.ownBlock, hgne]) _

theorem WAt.cut1 {w : World} {bw g cap most : Nat} {bs ext : List Bool} {S X : Int} (h : WAt w bw (.slice (some ⟨g, 0, none⟩) (((bs ++ ext).length + 7) / 8) cap) most (bs ++ ext)) (hu : bs.length % 8 ≠ 0) (hS : S = (bs.length : Int))
    (hX : X = ((byteAt (bs ++ ext) (bs.length / 8) &&& (255 * 2 ^ (8 - bs.length % 8) % 256) : Nat) : Int)) :
    WAt (((w.setCell ⟨bw, 1, none⟩ (.int .i64 S)).setCell ⟨bw, 2, none⟩ (.slice (some ⟨g, 0, none⟩) ((bs.length + 7) / 8) cap)).setCell ⟨g, (bs.length + 7) / 8 - 1, none⟩ (.int .u8 X)) bw (.slice (some ⟨g, 0, none⟩) ((bs.length + 7) / 8) cap) most bs ∧
    WStep bw (.slice (some ⟨g, 0, none⟩) (((bs ++ ext).length + 7) / 8) cap) (.slice (some ⟨g, 0, none⟩) ((bs.length + 7) / 8) cap) w (((w.setCell ⟨bw, 1, none⟩ (.int .i64 S)).setCell ⟨bw, 2, none⟩ (.slice (some ⟨g, 0, none⟩) ((bs.length + 7) / 8) cap)).setCell ⟨g, (bs.length + 7) / 8 - 1, none⟩ (.int .u8 X)) := by
  subst hS; subst hX
  have hgne : g ≠ bw := fun e => h.rowne (by simp [Value.ownBlock, e])
  have hle := h.le
  rw [List.length_append] at hle
  have f1 : Fr (fun k => k = bw ∨ (Value.slice (some ⟨g, 0, none⟩) (((bs ++ ext).length + 7) / 8) cap).ownBlock = some k) w ((w.setCell ⟨bw, 1, none⟩ (.int .i64 (bs.length : Int))).setCell ⟨bw, 2, none⟩ (.slice (some ⟨g, 0, none⟩) ((bs.length + 7) / 8) cap)) := ((Fr.refl _ _).setCell (fun _ => Or.inl rfl) _).setCell (fun _ => Or.inl rfl) _
  refine ⟨⟨?_, ?_, by omega, h.lim⟩, ⟨f1.setCell (p := ⟨g, (bs.length + 7) / 8 - 1, none⟩) (fun _ => Or.inr rfl) _, Or.inl rfl⟩⟩
  · rw [Below.heap_setCell _ _ _ _ (by simpa using hgne.symm)]
    exact three_set2 (three_set1 h.blk)
  · have h2 := row_shrink (k := (bs.length + 7) / 8) h.own (by rw [List.length_append]; omega)
    have h3 := ownsRow_setCell_other (ownsRow_setCell_other h2 (a := ⟨bw, 1, none⟩) (by simp [Value.ownBlock, hgne]) (.int .i64 (bs.length : Int))) (a := ⟨bw, 2, none⟩) (by simp [Value.ownBlock, hgne]) (.slice (some ⟨g, 0, none⟩) ((bs.length + 7) / 8) cap)
    have h4 := (h3.stored ((bs.length + 7) / 8 - 1) (.int .u8 ((byteAt (bs ++ ext) (bs.length / 8) &&& (255 * 2 ^ (8 - bs.length % 8) % 256) : Nat) : Int))).1
    rw [byteCells_take, byteCells_set, ← pack_cut bs ext hu] at h4
    exact h4

theorem mask_num (x s : Nat) (hx : x < 256) : bits .and .u8 (x : Int) (255 * 2 ^ s % 256) = ((x &&& (255 * 2 ^ s % 256) : Nat) : Int) := by
  have e : ((255 : Int) * 2 ^ s % 256) = ((255 * 2 ^ s % 256 : Nat) : Int) := by simp
  rw [e]
  exact u8_and_nat _ _ hx (Nat.mod_lt _ (by omega))

set_option maxRecDepth 100000 in
set_option maxHeartbeats 1000000 in
theorem cut_any (bw : Nat) (v : Value) (most : Nat) (bs ext : List Bool) (w : World) (h : WAt w bw v most (bs ++ ext)) :
    Calls Tryd.prog 62 #[.pointer (some ⟨bw, 0, none⟩), .int .i64 bs.length] w fun e w' => e = .returned (.tuple #[]) ∧ ∃ v', WAt w' bw v' most bs ∧ WStep bw v v' w w' := by
  obtain ⟨c0, c1, c2, cf⟩ := cell_of_three h.blk
  have hle := h.le
  have hlim := h.lim
  have HA : Hid (WAt w bw v most (bs ++ ext)) := h
  rw [List.length_append] at hle
  clear c0
  rcases h.own.2 with ⟨rfl, e⟩ | ⟨g, cap, cur, rfl, _, _, hc, hm, _⟩
  · rw [List.length_append] at e
    have hb : bs = [] := List.eq_nil_of_length_eq_zero (by omega)
    have hx : ext = [] := List.eq_nil_of_length_eq_zero (by omega)
    subst hb; subst hx
    clear h e hle
    go_enter Tryd.func62, Tryd.ntmps62
    go_wp2
    go_end0
    refine ⟨rfl, .slice none 0 0, ⟨three_set2 (three_set1 HA.out.blk), ?_, by simp, hlim⟩, ⟨((Fr.refl _ _).setCell (fun _ => Or.inl rfl) _).setCell (fun _ => Or.inl rfl) _, Or.inl rfl⟩⟩
    exact World.ownsRow_nil _ _ _ _
  · have hgne : g ≠ bw := fun e => h.rowne (by simp [Value.ownBlock, e])
    have hN : (bs.length + 7) / 8 ≤ ((bs ++ ext).length + 7) / 8 := by rw [List.length_append]; omega
    unfold maxLen at hm
    by_cases hu : bs.length % 8 = 0
    · have hu' : ((bs.length : Int) % 8 != 0) = false := by simp; omega
      have R := HA.out.cut0 hu rfl
      have HR : Hid (_ ∧ _) := R
      generalize ((bs ++ ext).length + 7) / 8 = N at *
      clear h R HA
      go_enter Tryd.func62, Tryd.ntmps62
      go_wp2
      go_end0
      exact ⟨rfl, _, HR.out.1, HR.out.2⟩
    · have hu' : ((bs.length : Int) % 8 != 0) = true := by rw [bne_iff_ne]; omega
      have hcx : w.cell? ⟨g, (bs.length + 7) / 8 - 1, none⟩ = some (.int .u8 (byteAt (bs ++ ext) (bs.length / 8))) := by
        rw [h.own.cellAt ((bs.length + 7) / 8 - 1) (by rw [List.length_append]; omega), byteCells_get, pack_get _ _ (by rw [List.length_append]; omega), show (bs.length + 7) / 8 - 1 = bs.length / 8 from by omega]; rfl
      have hfx := h.own.frozenAt ((bs.length + 7) / 8 - 1)
      have hblt := byteAt_lt (bs ++ ext) (bs.length / 8)
      have R := HA.out.cut1 hu rfl (mask_num _ (8 - bs.length % 8) hblt)
      have HR : Hid (_ ∧ _) := R
      generalize ((bs ++ ext).length + 7) / 8 = N at *
      generalize byteAt (bs ++ ext) (bs.length / 8) = X at *
      clear h R HA
      go_enter Tryd.func62, Tryd.ntmps62
      go_wp2
      go_region
      go_wp2
      go_end0
      exact ⟨rfl, _, HR.out.1.drew, HR.out.2.drew⟩

end Go.Proofs.YtamonbkhpbdojaaDoor
