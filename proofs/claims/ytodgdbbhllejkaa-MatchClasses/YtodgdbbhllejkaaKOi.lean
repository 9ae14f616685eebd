/- 'OverInts': numbers that were told are written over. -/
import Derived.Test.YtodgdbbhllejkaaKKd
namespace Go.Proofs.Ytodgdbbhllejkaa
open Go.RowKit

set_option maxRecDepth 100000 in
set_option maxHeartbeats 2000000 in
theorem overInts_any (v : Value) (n : Nat) (xs : List Value) (w : World) (h : w.ownsRow 0 3 1 v n xs) (hn : n ≤ 1048576) :
    Calls Try.prog 17 #[v] w fun e w' => e = .returned (.tuple #[]) ∧ Fr (fun k => v.ownBlock = some k) w w' := by
  obtain ⟨j0, hj, hy0, hy1, hy2⟩ := info_parts Try.infoInt
  obtain ⟨ao, cap, hv⟩ := own_slice h
  subst hv
  have HO : Hid (w.ownsRow 0 3 1 (.slice ao n cap) n xs) := h
  clear h
  go_enter Try.func17, Try.ntmps17
  go_wp2_with fail
  go_loopg [2] n (fun q k wr => ∃ (j : Nat) (ys : List Value), j + q = n ∧ k = .int .i64 (j : Int) ∧ wr.ownsRow 0 3 1 (.slice ao n cap) n ys ∧ Fr (fun k => (Value.slice ao n cap).ownBlock = some k) w wr)
  case atStart => exact ⟨0, xs, by omega, rfl, HO.out, Fr.refl _ _⟩
  case round =>
    obtain ⟨j, ys, hjq, rfl, ho, hfr⟩ := hrel
    have HOj : Hid (wr.ownsRow 0 3 1 (.slice ao n cap) n ys) := ho
    have HFr : Hid (Fr (fun k => (Value.slice ao n cap).ownBlock = some k) w wr) := hfr
    clear ho hfr
    by_cases h1 : j < n
    · have d1 : decide (j < n) = true := decide_eq_true h1
      obtain ⟨g, c', hv, -, -, -⟩ := row_form HOj.out (by omega)
      simp only [Value.slice.injEq] at hv
      obtain ⟨rfl, -, rfl⟩ := hv
      have hly : ys.length = n * 1 := HOj.out.1
      obtain ⟨u, hu⟩ : ∃ u, wr.cell? ⟨g, j, none⟩ = some u := ⟨ys[j]'(by omega), by rw [World.ownsRow.cellAt HOj.out j (by omega), List.getElem?_eq_getElem (by omega)]⟩
      have f6 : wr.frozen? ⟨g, j, none⟩ = false := World.ownsRow.frozenAt HOj.out j
      have HO6 : Hid ((wr.setCell ⟨g, j, none⟩ (.int .i64 (-99))).ownsRow 0 3 1 (.slice (some ⟨g, 0, none⟩) n cap) n (ys.set j (.int .i64 (-99)))) := (World.ownsRow.stored HOj.out j (.int .i64 (-99))).1
      have HF6 : Hid (Fr (fun k => (Value.slice (some ⟨g, 0, none⟩) n cap).ownBlock = some k) w (wr.setCell ⟨g, j, none⟩ (.int .i64 (-99)))) := HFr.out.setCell (p := ⟨g, j, none⟩) (fun _ => rfl) _
      clear hly
      go_wp2_with fail
      go_roundg (n - (j + 1))
      case measure => omega
      case rel => exact ⟨j + 1, _, by omega, by go_num, HO6.out, HF6.out⟩
    · have d1 : decide (j < n) = false := decide_eq_false h1
      clear hjq
      go_wp2_with (first | (at_builtin; refine wpList_append_row _ rfl _ _ 31 rfl 3 j0 (.int .i64 0) 1 8 Try.underlying31 hj hy0 hy1 hy2 rfl (by decide) (.slice ao n cap) n ys rfl (HOj.out.alloc _) ⟨wr.heap.size, 0, none⟩ 3 3 [.int .i64 1, .int .i64 2, .int .i64 3] rfl rfl ?c1 ?c2 ?c3 ?c4 (by decide) ?_))
      case c1 =>
        intro i u hu
        have hb := heap_alloc_new wr (.cells #[.int .i64 1, .int .i64 2, .int .i64 3] 3)
        match i, hu with
        | 0, hu => cases hu; show (wr.alloc _).cell? ⟨wr.heap.size, 0, none⟩ = _; unfold World.cell?; simp only [hb]; rfl
        | 1, hu => cases hu; show (wr.alloc _).cell? ⟨wr.heap.size, 1, none⟩ = _; unfold World.cell?; simp only [hb]; rfl
        | 2, hu => cases hu; show (wr.alloc _).cell? ⟨wr.heap.size, 2, none⟩ = _; unfold World.cell?; simp only [hb]; rfl
        | i + 3, hu => simp at hu
      case c2 =>
        intro u hu
        simp only [List.mem_cons, List.not_mem_nil, or_false] at hu
        rcases hu with rfl | rfl | rfl <;> rfl
      case c3 => unfold maxLen; omega
      case c4 => omega
      intro g' cap' w' ho hg hor hc hm
      have hd : decide (n < n + 3) = true := decide_eq_true (by omega)
      have hly : (ys ++ [Value.int .i64 1, Value.int .i64 2, Value.int .i64 3]).length = (n + 3) * 1 := ho.1
      obtain ⟨u, hu⟩ : ∃ u, w'.cell? ⟨g', n, none⟩ = some u := ⟨(ys ++ [Value.int .i64 1, Value.int .i64 2, Value.int .i64 3])[n]'(by omega), by rw [World.ownsRow.cellAt ho n (by omega), List.getElem?_eq_getElem (by omega)]⟩
      have f6 : w'.frozen? ⟨g', n, none⟩ = false := World.ownsRow.frozenAt ho n
      have HF6 : Hid (Fr (fun k => (Value.slice ao n cap).ownBlock = some k) w (w'.setCell ⟨g', n, none⟩ (.int .i64 (-99)))) := by
        refine ((HFr.out.alloc _).grown hg (fun k e _ => e)).setCell (p := ⟨g', n, none⟩) (fun hlt => ?_) _
        rcases hor with h | h
        · exact h
        · have h2 := HFr.out.size
          have h3 : g' < w.heap.size := hlt
          omega
      clear ho hg hor hc hm hly
      go_wp2_with fail
      (first | go_ret | go_end0)
      exact ⟨rfl, HF6.out⟩
end Go.Proofs.Ytodgdbbhllejkaa
