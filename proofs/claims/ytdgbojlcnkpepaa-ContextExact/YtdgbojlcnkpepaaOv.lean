/- 'OverInts': numbers that were told are written over, and beyond their end. -/
import Derived.Test.YtdgbojlcnkpepaaLe
import Derived.Test.YtdgbojlcnkpepaaRo
namespace Go.Proofs.Ytdgbojlcnkpepaa
open Go.RowKit

set_option maxRecDepth 100000 in
set_option maxHeartbeats 4000000 in
theorem overI_row (g n : Nat) (xs : List Value) (w : World) (hn : n ≤ 1048576) (hown : w.ownsRow 0 3 1 (.slice (some ⟨g, 0, none⟩) n n) n xs) :
    Calls Try.prog 20 #[.slice (some ⟨g, 0, none⟩) n n] w fun e w' => e = .returned (.tuple #[]) ∧ Fr (fun k => k = g) w w' := by
  obtain ⟨i0, hi, hz0, hz1, hz2⟩ := info_parts Try.info3
  go_enter Try.func20, Try.ntmps20
  go_wp2_with fail
  go_loopw [2] (fun i wr => ∃ (k : Nat) (ys : List Value), k ≤ n ∧ i = .int .i64 k ∧ wr.ownsRow 0 3 1 (.slice (some ⟨g, 0, none⟩) n n) n ys ∧ Fr (fun k => k = g) w wr) (fun i _ => n - (intOf i).toNat)
  case atStart => exact ⟨0, xs, Nat.zero_le _, rfl, hown, Fr.refl _ _⟩
  case round =>
    obtain ⟨k, ys, hk, rfl, hown2, hfr⟩ := hrel
    have HO2 : Hid (wr.ownsRow 0 3 1 (.slice (some ⟨g, 0, none⟩) n n) n ys) := hown2
    have HF2 : Hid (Fr (fun k => k = g) w wr) := hfr
    by_cases hlt : k < n
    · have hcx : ∃ x, wr.cell? ⟨g, k, none⟩ = some x := by
        rw [hown2.cellAt k (by omega)]
        have hl := hown2.1
        exact ⟨_, List.getElem?_eq_getElem (by omega)⟩
      obtain ⟨x, hcx⟩ := hcx
      have hfx := hown2.frozenAt k
      clear hown2 hfr
      go_wp2_with fail
      go_roundw
      case rel => exact ⟨k + 1, _, by omega, congrArg (Value.int .i64) (by omega), (HO2.out.stored k _).1, HF2.out.setCell (p := ⟨g, k, none⟩) (fun _ => rfl) _⟩
      case measure => simp [intOf]; omega
    · obtain rfl : n = k := by omega
      clear hfr
      go_wp2_with (first | (at_builtin; refine wpList_append_lies _ rfl _ _ 25 rfl 0 3 i0 (.int .i64 0) 1 8 Try.underlying25 hi hz0 hz1 hz2 rfl (by decide) (.slice (some ⟨g, 0, none⟩) n n) n ys rfl (hown2.alloc _) ⟨wr.heap.size, 0, none⟩ 3 3 [.int .i64 1, .int .i64 2, .int .i64 3] rfl rfl ?c1 ?c2 (by decide) ?c3 ?c4 ?c5 (wr.heap.size + 1) ?c6 ?_))
      case c1 => exact World.news_of_block (heap_alloc_new wr (.cells #[.int .i64 1, .int .i64 2, .int .i64 3] 3))
      case c2 => intro u hu; simp at hu; rcases hu with rfl | rfl | rfl <;> rfl
      case c3 => unfold maxLen; omega
      case c4 => omega
      case c5 => exact Nat.zero_le _
      case c6 => simp
      intro g' cap' w1 hown1 hgrow hat hlt
      have hcn : ∃ x, w1.cell? ⟨g', n, none⟩ = some x := by
        rw [hown1.cellAt n (by omega)]
        have hl := hown1.1
        exact ⟨_, List.getElem?_eq_getElem (by omega)⟩
      obtain ⟨x0, hcx⟩ := hcn
      have hfx := hown1.frozenAt n
      have HF : Hid (Fr (fun k => k = g) w (w1.setCell ⟨g', n, none⟩ (.int .i64 (-99)))) := by
        refine ((HF2.out.alloc _).grown hgrow (fun k hk _ => by simp [Value.ownBlock] at hk; exact hk.symm)).setCell (p := ⟨g', n, none⟩) (fun hh => ?_) _
        have h1 := HF2.out.size
        have h2 : g' < w.heap.size := hh
        rcases hat with e | e
        · simp [Value.ownBlock] at e; exact e.symm
        · exfalso; omega
      clear hown1 hgrow hat
      go_wp2_with fail
      go_end0
      exact ⟨rfl, HF.out⟩
set_option maxRecDepth 100000 in
set_option maxHeartbeats 4000000 in
theorem overI_nil (w : World) :
    Calls Try.prog 20 #[.slice none 0 0] w fun e w' => e = .returned (.tuple #[]) ∧ Fr (fun _ => False) w w' := by
  obtain ⟨i0, hi, hz0, hz1, hz2⟩ := info_parts Try.info3
  go_enter Try.func20, Try.ntmps20
  go_wp2_with fail
  refine wp_loop_rounds 1 ?_
  rw [rounds_succ]
  go_wp2_with (first | (at_builtin; refine wpList_append_lies _ rfl _ _ 25 rfl 0 3 i0 (.int .i64 0) 1 8 Try.underlying25 hi hz0 hz1 hz2 rfl (by decide) (.slice none 0 0) 0 [] rfl (World.ownsRow_nil _ _ _ _) ⟨w.heap.size, 0, none⟩ 3 3 [.int .i64 1, .int .i64 2, .int .i64 3] rfl rfl ?c1 ?c2 (by decide) ?c3 ?c4 ?c5 (w.heap.size + 1) ?c6 ?_))
  case c1 => exact World.news_of_block (heap_alloc_new w (.cells #[.int .i64 1, .int .i64 2, .int .i64 3] 3))
  case c2 => intro u hu; simp at hu; rcases hu with rfl | rfl | rfl <;> rfl
  case c3 => unfold maxLen; omega
  case c4 => omega
  case c5 => exact Nat.zero_le _
  case c6 => simp
  intro g' cap' w1 hown1 hgrow hat hlt
  have hcn : ∃ x, w1.cell? ⟨g', 0, none⟩ = some x := by
    rw [hown1.cellAt 0 (by omega)]
    have hl := hown1.1
    exact ⟨_, List.getElem?_eq_getElem (by omega)⟩
  obtain ⟨x0, hcx⟩ := hcn
  have hfx := hown1.frozenAt 0
  have HF : Hid (Fr (fun _ => False) w (w1.setCell ⟨g', 0, none⟩ (.int .i64 (-99)))) := by
    refine (((Fr.refl (fun _ => False) w).alloc _).grown hgrow (fun k hk _ => by cases hk)).setCell (p := ⟨g', 0, none⟩) (fun hh => ?_) _
    have h2 : g' < w.heap.size := hh
    rcases hat with e | e
    · cases e
    · omega
  clear hown1 hgrow hat
  go_wp2_with fail
  go_end0
  exact ⟨rfl, HF.out⟩
end Go.Proofs.Ytdgbojlcnkpepaa
