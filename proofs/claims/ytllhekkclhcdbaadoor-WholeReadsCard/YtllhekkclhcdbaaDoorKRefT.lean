/- The document's own answer: its table. -/
import Derived.Test.YtllhekkclhcdbaaDoorKRef
import Derived.Deep.RegionWith
import Derived.Deep.OwnRows
import Derived.Test.YtllhekkclhcdbaaDoorKGet
namespace Go.Proofs.YtllhekkclhcdbaaDoor
open Go.RowKit

theorem Tryd.info117 : (Tryd.prog.info? 117).map (fun i => (i.zero, i.size, i.bytes)) = some (some (.agg #[.int .i64 0, .int .i64 0, .int .i64 0, .bool false]), 4, 32) := by kernel_rfl
def tabCells : Nat → List Value
  | 0 => []
  | k + 1 => tabCells k ++ rowR k
theorem length_tabCells : ∀ k, (tabCells k).length = k * 4
  | 0 => rfl
  | k + 1 => by simp [tabCells, rowR, length_tabCells k]; omega

theorem cell_four_new (w : World) (a b c d : Value) (t : TypeId) (j : Nat) (u : Value) (h : [a, b, c, d][j]? = some u) : (w.alloc (.cells #[a, b, c, d] t)).cell? ((⟨w.heap.size, 0, none⟩ : Addr).add j) = some u :=
  (World.ownsRow_lit (base := 0) (e := t) (size := 4) w #[a, b, c, d] 1 (Nat.zero_le _) (by decide) rfl).cells rfl j u h

set_option maxRecDepth 100000 in
set_option maxHeartbeats 4000000 in
theorem rtable_at (w : World) : Calls Tryd.prog 61 #[] w fun e w' => ∃ g cap, e = .returned (.slice (some ⟨g, 0, none⟩) 47 cap) ∧ w'.ownsRow 0 117 4 (.slice (some ⟨g, 0, none⟩) 47 cap) 47 (tabCells 47) ∧ Fr (fun _ => False) w w' ∧ w.heap.size ≤ g := by
  obtain ⟨i0, hi, hz0, hz1, hz2⟩ := info_parts Tryd.info117
  go_enter Tryd.func61, Tryd.ntmps61
  go_wp2_with fail
  go_loopw [1, 2] (fun t i wr => ∃ k : Nat, k ≤ 47 ∧ i = .int .i64 k ∧ wr.ownsRow 0 117 4 t k (tabCells k) ∧ Fr (fun _ => False) w wr ∧ ∀ g, t.ownBlock = some g → w.heap.size ≤ g) (fun _ i _ => 47 - (intOf i).toNat)
  case atStart => exact ⟨0, by decide, rfl, ⟨rfl, Or.inl ⟨rfl, rfl⟩⟩, Fr.refl _ _, fun g hg => by simp [Value.ownBlock] at hg⟩
  case round =>
    obtain ⟨k, hk, rfl, hown, hfr, hg⟩ := hrel
    obtain ⟨q, m, l, b, HR⟩ : ∃ q m l b, Hid (IsRow k q m l b ∨ k = 47) := by
      by_cases hk2 : k < 47
      · exact ⟨_, _, _, _, Or.inl ⟨hk2, rfl, rfl, rfl, rfl⟩⟩
      · exact ⟨0, 0, 0, true, Or.inr (by omega)⟩
    obtain ⟨ao, cp, rfl⟩ := row_slice hown
    have HO : Hid (wr.ownsRow 0 117 4 (.slice ao k cp) k (tabCells k)) := hown
    have HF : Hid (Fr (fun _ => False) w wr) := hfr
    have HG : Hid (∀ g, (Value.slice ao k cp).ownBlock = some g → w.heap.size ≤ g) := hg
    clear hown hfr hg
    by_cases hlt : k < 47
    · have HR2 : Hid (IsRow k q m l b) := by
        rcases HR.out with e | e
        · exact e
        · omega
      go_wp2_with fail
      refine (rrow_at wr k hlt q m l b HR2.out).mono ?_
      rintro e w1 ⟨rfl, hf1⟩
      have hown1 : w1.ownsRow 0 117 4 (.slice ao k cp) k (tabCells k) := row_kept HO.out hf1 (fun _ _ hh => hh)
      have HF1 : Hid (Fr (fun _ => False) w w1) := HF.out.trans hf1 (fun _ _ hh => hh)
      clear hf1
      go_wp2_with (first | (at_builtin; refine wpList_append_row _ rfl _ _ 63 rfl 117 i0 (.agg #[.int .i64 0, .int .i64 0, .int .i64 0, .bool false]) 4 32 Tryd.underlying63 hi hz0 hz1 hz2 rfl (by decide) _ _ _ rfl (hown1.alloc _) ⟨w1.heap.size, 0, none⟩ 1 1 _ rfl rfl (cell_four_new _ _ _ _ _ _) ?_ ?_ ?_ (by decide) ?_))
      · intro u hu; simp at hu; rcases hu with rfl | rfl | rfl | rfl <;> rfl
      · unfold maxLen; omega
      · omega
      · intro g' cap' w2 hown2 hgrow hat hc' hm'
        have HO2 : Hid (w2.ownsRow 0 117 4 (.slice (some ⟨g', 0, none⟩) (k + 1) cap') (k + 1) (tabCells (k + 1))) := by
          have e : rowR k = [.int .i64 (q : Nat), .int .i64 (m : Nat), .int .i64 (l : Nat), .bool b] := by unfold rowR; rw [HR2.out.hq, HR2.out.hm, HR2.out.hl, HR2.out.hb]
          show w2.ownsRow 0 117 4 _ _ (tabCells k ++ rowR k)
          rw [e]; exact hown2
        have HF2 : Hid (Fr (fun _ => False) w w2) := (HF1.out.alloc _).grown hgrow (fun j hj hlt => absurd hlt (by have := HG.out j hj; omega))
        have HG2 : Hid (w.heap.size ≤ g') := by
          rcases hat with e | e
          · exact HG.out g' e
          · have := HF1.out.size
            have e2 : w1.heap.size + 1 ≤ g' := by simpa using e
            show _ ≤ _; omega
        clear hown2 hgrow hat hown1
        go_wp2_with fail
        refine ⟨⟨k + 1, by omega, congrArg (Value.int .i64) (by omega), HO2.out, HF2.out, fun g hg => ?_⟩, by simp [intOf]; omega⟩
        simp [Value.ownBlock] at hg; subst hg; exact HG2.out
    · have hk47 : k = 47 := by omega
      subst hk47
      obtain ⟨g, cap, e, _⟩ := row_form HO.out (by decide)
      simp only [Value.slice.injEq] at e
      obtain ⟨rfl, _, rfl⟩ := e
      go_wp2_with fail
      go_ret
      exact ⟨g, cp, rfl, HO.out, HF.out, HG.out g rfl⟩

theorem Tryd.info3 : (Tryd.prog.info? 3).map (fun i => (i.zero, i.size, i.bytes)) = some (some (.int .i64 0), 1, 8) := by kernel_rfl

end Go.Proofs.YtllhekkclhcdbaaDoor
