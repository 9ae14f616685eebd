/- 'Over': bytes of a row of the call's own are written over, and beyond their end. -/
import Derived.Test.YtdbblgceeclpaaaReF
namespace Go.Proofs.Ytdbblgceeclpaaa
open Go.RowKit

theorem Try.info5b : (Try.prog.info? 5).map (fun i => (i.zero, i.size, i.bytes)) = some (some (.int .u8 0), 1, 1) := by kernel_rfl

set_option maxRecDepth 100000 in
set_option maxHeartbeats 4000000 in
theorem overB_row (g n cap : Nat) (xs : List Value) (w : World) (hn : n ≤ 1048576) (hown : w.ownsRow 0 5 1 (.slice (some ⟨g, 0, none⟩) n cap) n xs) :
    Calls Try.prog 22 #[.slice (some ⟨g, 0, none⟩) n cap] w fun e w' => e = .returned (.tuple #[]) ∧ Fr (fun k => k = g) w w' := by
  obtain ⟨i0, hi, hz0, hz1, hz2⟩ := info_parts Try.info5b
  go_enter Try.func22, Try.ntmps22
  go_wp2_with fail
  go_loopw [2] (fun i wr => ∃ (k : Nat) (ys : List Value), k ≤ n ∧ i = .int .i64 k ∧ wr.ownsRow 0 5 1 (.slice (some ⟨g, 0, none⟩) n cap) n ys ∧ Fr (fun k => k = g) w wr) (fun i _ => n - (intOf i).toNat)
  case atStart => exact ⟨0, xs, Nat.zero_le _, rfl, hown, Fr.refl _ _⟩
  case round =>
    obtain ⟨k, ys, hk, rfl, hown2, hfr⟩ := hrel
    have HO2 : Hid (wr.ownsRow 0 5 1 (.slice (some ⟨g, 0, none⟩) n cap) n ys) := hown2
    have HF2 : Hid (Fr (fun k => k = g) w wr) := hfr
    by_cases hlt : k < n
    · have hcx : ∃ x, wr.cell? ⟨g, k, none⟩ = some x := by
        rw [hown2.cellAt k (by omega)]
        have hl := hown2.1
        exact ⟨_, List.getElem?_eq_getElem (by omega)⟩
      obtain ⟨x, hcx⟩ := hcx
      have hfx := hown2.frozenAt k
      clear hown2 hfr
      go_wp2_with fail
      go_roundw
      case rel => exact ⟨k + 1, _, by omega, congrArg (Value.int .i64) (by omega), (HO2.out.stored k _).1, HF2.out.setCell (p := ⟨g, k, none⟩) (fun _ => rfl) _⟩
      case measure => simp [intOf]; omega
    · obtain rfl : n = k := by omega
      clear hfr
      go_wp2_with (first | (at_builtin; refine wpList_append_lies _ rfl _ _ 22 rfl 0 5 i0 (.int .u8 0) 1 1 Try.underlying22 hi hz0 hz1 hz2 rfl (by decide) (.slice (some ⟨g, 0, none⟩) n cap) n ys rfl (hown2.alloc _) ⟨wr.heap.size, 0, none⟩ 3 3 [.int .u8 1, .int .u8 2, .int .u8 3] rfl rfl ?c1 ?c2 (by decide) ?c3 ?c4 ?c5 (wr.heap.size + 1) ?c6 ?_))
      case c1 => exact World.news_of_block (heap_alloc_new wr (.cells #[.int .u8 1, .int .u8 2, .int .u8 3] 5))
      case c2 => intro u hu; simp at hu; rcases hu with rfl | rfl | rfl <;> rfl
      case c3 => unfold maxLen; omega
      case c4 => omega
      case c5 => exact Nat.zero_le _
      case c6 => simp
      intro g' cap' w1 hown1 hgrow hat hlt
      have hcn : ∃ x, w1.cell? ⟨g', n, none⟩ = some x := by
        rw [hown1.cellAt n (by omega)]
        have hl := hown1.1
        exact ⟨_, List.getElem?_eq_getElem (by omega)⟩
      obtain ⟨x0, hcx⟩ := hcn
      have hfx := hown1.frozenAt n
      have HF : Hid (Fr (fun k => k = g) w (w1.setCell ⟨g', n, none⟩ (.int .u8 90))) := by
        refine ((HF2.out.alloc _).grown hgrow (fun k hk _ => by simp [Value.ownBlock] at hk; exact hk.symm)).setCell (p := ⟨g', n, none⟩) (fun hh => ?_) _
        have h1 := HF2.out.size
        have h2 : g' < w.heap.size := hh
        rcases hat with e | e
        · simp [Value.ownBlock] at e; exact e.symm
        · exfalso; omega
      clear hown1 hgrow hat
      go_wp2_with fail
      go_end0
      exact ⟨rfl, HF.out⟩
end Go.Proofs.Ytdbblgceeclpaaa
