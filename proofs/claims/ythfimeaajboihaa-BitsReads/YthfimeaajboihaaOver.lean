/- 'Over': a list of bytes that was told is written over, and beyond its end. -/
import Derived.Test.YthfimeaajboihaaRef3
namespace Go.Proofs.Ythfimeaajboihaa
open Go.RowKit

theorem cell_three_new (w : World) (a b c : Value) (t : TypeId) (j : Nat) (u : Value) (h : [a, b, c][j]? = some u) : (w.alloc (.cells #[a, b, c] t)).cell? ((⟨w.heap.size, 0, none⟩ : Addr).add j) = some u :=
  (World.ownsRow_lit (base := 0) (e := t) (size := 1) w #[a, b, c] 3 (Nat.zero_le _) (by decide) rfl).cells rfl j u h

set_option maxRecDepth 100000 in
set_option maxHeartbeats 2000000 in
theorem over_any (v : Value) (n : Nat) (xs : List Value) (w : World) (h : w.ownsRow 0 5 1 v n xs) (hn : n ≤ 140000000000000) :
    Calls Try.prog 21 #[v] w fun e w' => e = .returned (.tuple #[]) ∧ Fr (fun k => v.ownBlock = some k) w w' := by
  obtain ⟨i0, hi, hz0, hz1, hz2⟩ := info_parts Try.info5
  have HO : Hid (w.ownsRow 0 5 1 v n xs) := h
  rcases h.2 with ⟨rfl, e⟩ | ⟨g, cap, cur, rfl, _, _, hc, hm, _⟩
  · subst e
    clear h
    go_enter Try.func21, Try.ntmps21
    go_wp2_with fail
    refine wp_loop_rounds 1 ?_
    rw [rounds_succ]
    have hown := HO.out
    go_wp2_with (first | (at_builtin; refine wpList_append_row _ rfl _ _ 39 rfl 5 i0 (.int .u8 0) 1 1 Try.underlying39 hi hz0 hz1 hz2 rfl (by decide) _ _ _ rfl (hown.alloc _) ⟨w.heap.size, 0, none⟩ 3 3 _ rfl rfl (cell_three_new _ _ _ _ _) ?_ ?_ ?_ (by decide) ?_))
    · intro u hu; simp at hu; rcases hu with rfl | rfl | rfl <;> rfl
    · unfold maxLen; omega
    · omega
    · intro g' cap' w1 hown' hgrow hrow hc' hm'
      have hrow2 : w.heap.size + 1 ≤ g' := by
        rcases hrow with e | e
        · simp [Value.ownBlock] at e
        · exact e
      have hc0 := hown'.cellAt 0 (by omega)
      have hcx : ∃ x, w1.cell? ⟨g', 0, none⟩ = some x := by
        rw [hc0]
        have hl := hown'.1
        exact ⟨_, List.getElem?_eq_getElem (by omega)⟩
      obtain ⟨x, hcx⟩ := hcx
      have hfx := hown'.frozenAt 0
      have HF1 : Hid (Fr (fun k => (Value.slice none 0 0).ownBlock = some k) w w1) := ((Fr.refl _ _).alloc _).grown hgrow (fun k hk _ => hk)
      clear hown' hgrow hrow hc0 hown
      unfold maxLen at hm'
      go_wp2_with fail
      go_end0
      exact ⟨rfl, HF1.out.setCell (fun hh => by simp at hh; omega) _⟩
  · clear h
    unfold maxLen at hm
    go_enter Try.func21, Try.ntmps21
    go_wp2_with fail
    go_loopw [2] (fun i wr => ∃ (k : Nat) (ys : List Value), k ≤ n ∧ i = .int .i64 k ∧ wr.ownsRow 0 5 1 (.slice (some ⟨g, 0, none⟩) n cap) n ys ∧ Fr (fun k => (Value.slice (some ⟨g, 0, none⟩) n cap).ownBlock = some k) w wr) (fun i _ => n - (intOf i).toNat)
    case atStart => exact ⟨0, xs, Nat.zero_le _, rfl, HO.out, Fr.refl _ _⟩
    case round =>
      obtain ⟨k, ys, hk, rfl, hown, hfr⟩ := hrel
      have HO2 : Hid (wr.ownsRow 0 5 1 (.slice (some ⟨g, 0, none⟩) n cap) n ys) := hown
      have HF2 : Hid (Fr (fun k => (Value.slice (some ⟨g, 0, none⟩) n cap).ownBlock = some k) w wr) := hfr
      by_cases hlt : k < n
      · have hcx : ∃ x, wr.cell? ⟨g, k, none⟩ = some x := by
          rw [hown.cellAt k (by omega)]
          have hl := hown.1
          exact ⟨_, List.getElem?_eq_getElem (by omega)⟩
        obtain ⟨x, hcx⟩ := hcx
        have hfx := hown.frozenAt k
        clear hown hfr
        go_wp2_with fail
        go_roundw
        case rel => exact ⟨k + 1, _, by omega, congrArg (Value.int .i64) (by omega), (HO2.out.stored k _).1, HF2.out.setCell (p := ⟨g, k, none⟩) (fun _ => rfl) _⟩
        case measure => simp [intOf]; omega
      · have hkn : k = n := by omega
        subst hkn
        clear hfr
        go_wp2_with (first | (at_builtin; refine wpList_append_row _ rfl _ _ 39 rfl 5 i0 (.int .u8 0) 1 1 Try.underlying39 hi hz0 hz1 hz2 rfl (by decide) _ _ _ rfl (hown.alloc _) ⟨wr.heap.size, 0, none⟩ 3 3 _ rfl rfl (cell_three_new _ _ _ _ _) ?_ ?_ ?_ (by decide) ?_))
        · intro u hu; simp at hu; rcases hu with rfl | rfl | rfl <;> rfl
        · unfold maxLen; omega
        · omega
        · intro g' cap' w1 hown' hgrow hrow hc' hm'
          have HRW : Hid (g = g' ∨ wr.heap.size + 1 ≤ g') := by
            rcases hrow with e | e
            · simp [Value.ownBlock] at e; exact Or.inl e
            · exact Or.inr e
          have hcx : ∃ x, w1.cell? ⟨g', k, none⟩ = some x := by
            rw [hown'.cellAt k (by omega)]
            have hl := hown'.1
            exact ⟨_, List.getElem?_eq_getElem (by omega)⟩
          obtain ⟨x, hcx⟩ := hcx
          have hfx := hown'.frozenAt k
          have HF3 : Hid (Fr (fun k' => (Value.slice (some ⟨g, 0, none⟩) k cap).ownBlock = some k') w w1) := (HF2.out.alloc _).grown hgrow (fun k hk _ => hk)
          clear hown' hgrow hrow hown
          unfold maxLen at hm'
          go_wp2_with fail
          go_end0
          refine ⟨rfl, HF3.out.setCell (fun hh => ?_) _⟩
          rcases HRW.out with e | e
          · rw [← e]; rfl
          · have := HF2.out.size; simp at hh; omega

end Go.Proofs.Ythfimeaajboihaa
