/- 'linesOf': the runs of all rows, numbered. -/
import Derived.WalkSmall
import Derived.Test.YtgpciopoionmeaaJo
namespace Go.Proofs.Ytgpciopoionmeaa
open Go.RowKit

def lineCells (l : List Line) : List Value := l.flatMap fun r => [.int .i64 (r.1 : Nat), .int .i64 (r.2.1 : Nat), .int .i64 (r.2.2 : Nat)]
theorem lineCells_append (a b : List Line) : lineCells (a ++ b) = lineCells a ++ lineCells b := by simp [lineCells]
theorem lineCells_one (y a b : Nat) : lineCells [(y, a, b)] = [.int .i64 (y : Nat), .int .i64 (a : Nat), .int .i64 (b : Nat)] := rfl
theorem length_lineCells : ∀ l : List Line, (lineCells l).length = l.length * 3
  | [] => rfl
  | r :: t => by
    show (_ :: _ :: _ :: lineCells t).length = _
    simp only [List.length_cons, length_lineCells t]; omega
theorem lineCells_at : ∀ (l : List Line) (i : Nat) (h : i < l.length), (lineCells l)[i * 3]? = some (.int .i64 (l[i].1 : Nat)) ∧ (lineCells l)[i * 3 + 1]? = some (.int .i64 (l[i].2.1 : Nat)) ∧ (lineCells l)[i * 3 + 2]? = some (.int .i64 (l[i].2.2 : Nat))
  | [], _, h => absurd h (Nat.not_lt_zero _)
  | (y, a, b) :: t, 0, _ => ⟨rfl, rfl, rfl⟩
  | (y, a, b) :: t, i + 1, h => by
    have := lineCells_at t i (by simpa using h)
    have e : lineCells ((y, a, b) :: t) = .int .i64 (y : Nat) :: .int .i64 (a : Nat) :: .int .i64 (b : Nat) :: lineCells t := rfl
    rw [e, show (i + 1) * 3 = i * 3 + 1 + 1 + 1 by omega, show i * 3 + 1 + 1 + 1 + 1 = (i * 3 + 1) + 1 + 1 + 1 by omega, show i * 3 + 1 + 1 + 1 + 2 = (i * 3 + 2) + 1 + 1 + 1 by omega]
    simpa using this
theorem cell_three_new (w : World) (a b c : Value) (t : TypeId) (j : Nat) (u : Value) (h : [a, b, c][j]? = some u) : (w.alloc (.cells #[a, b, c] t)).cell? ((⟨w.heap.size, 0, none⟩ : Addr).add j) = some u := by
  match j, h with
  | 0, h => simp at h; subst h; simp [Addr.add]
  | 1, h => simp at h; subst h; simp [Addr.add]
  | 2, h => simp at h; subst h; simp [Addr.add]
  | j + 3, h => simp at h
theorem cell_three_new2 (w : World) (o : Obj) (a b c : Value) (t : TypeId) (j : Nat) (u : Value) (h : [a, b, c][j]? = some u) : ((w.alloc o).alloc (.cells #[a, b, c] t)).cell? ((⟨w.heap.size + 1, 0, none⟩ : Addr).add j) = some u := by
  have := cell_three_new (w.alloc o) a b c t j u h
  rwa [World.size_alloc] at this
theorem Try.infoLine : (Try.prog.info? 102).map (fun i => (i.zero, i.size, i.bytes)) = some (some (.agg #[.int .i64 0, .int .i64 0, .int .i64 0]), 3, 24) := by kernel_rfl
/-- A line of a row, read. -/
theorem line_read {w : World} {base g c n i : Nat} {A : List Line} (h : w.ownsRow base 102 3 (.slice (some ⟨g, 0, none⟩) n c) n (lineCells A)) (hn : n = A.length) (hi : i < A.length) :
    w.cell? ⟨g, i * 3, none⟩ = some (.int .i64 (A[i].1 : Nat)) ∧ w.cell? ⟨g, i * 3 + 1, none⟩ = some (.int .i64 (A[i].2.1 : Nat)) ∧ w.cell? ⟨g, i * 3 + 2, none⟩ = some (.int .i64 (A[i].2.2 : Nat)) := by
  obtain ⟨a, b, d⟩ := lineCells_at A i hi
  subst hn
  exact ⟨(h.cellAt (i * 3) (by omega)).trans a, (h.cellAt (i * 3 + 1) (by omega)).trans b, (h.cellAt (i * 3 + 2) (by omega)).trans d⟩

set_option maxRecDepth 100000 in
set_option maxHeartbeats 4000000 in
theorem linesOf_ok (H base gR : Nat) (L : Nat → List (Nat × Nat)) (vs : List Value) (w : World) (hH : H ≤ 1048576) (hN : offL L H ≤ 1048576) (hr : OwnRR w base gR H H L vs) :
    Calls Try.prog 35 #[.slice (some ⟨gR, 0, none⟩) H H] w fun e w' => ∃ v, e = .returned v ∧ w'.ownsRow w.heap.size 102 3 v (offL L H) (lineCells (lnsTo L H)) ∧ Fr (fun _ => False) w w' := by
  obtain ⟨i0, hi, hz0, hz1, hz2⟩ := info_parts Try.infoLine
  have HRR : Hid (∀ w', Fr (fun _ => False) w w' → OwnRR w' base gR H H L vs) := fun w' hf => hr.kept hf (fun _ _ h => h)
  have HOF : Hid (∀ y, y < H → offL L y + (L y).length ≤ 1048576) := fun y hy => Nat.le_trans (offL_mono L (y := y + 1) (z := H) (by omega)) hN
  clear hr hN
  go_enter Try.func35, Try.ntmps35
  go_wp2_with fail
  go_loopg [3, 10] H (fun q l k wr => ∃ (y : Nat), y + q = H ∧ k = .int .i64 y ∧ wr.ownsRow w.heap.size 102 3 l (offL L y) (lineCells (lnsTo L y)) ∧ Fr (fun _ => False) w wr)
  case atStart => exact ⟨0, by omega, rfl, World.ownsRow_nil _ _ _ _, Fr.refl _ _⟩
  case round =>
    obtain ⟨y, hq, rfl, ho, hfr⟩ := hrel
    have HO : Hid (wr.ownsRow w.heap.size 102 3 u3 (offL L y) (lineCells (lnsTo L y))) := ho
    have HF : Hid (Fr (fun _ => False) w wr) := hfr
    clear ho hfr
    by_cases hyH : y < H
    · have dy : decide (y < H) = true := decide_eq_true hyH
      have hoy := HOF.out y hyH
      have k0 : wr.cell? ⟨gR, y, none⟩ = some (vs[y]?.getD (.slice none 0 0)) := by
        have ho := (HRR.out wr HF.out).own
        have hl := ho.1
        refine (ho.cellAt y (by omega)).trans ?_
        rw [List.getElem?_eq_getElem (by omega)]; rfl
      have HRW : Hid (∀ w', Fr (fun _ => False) w w' → w'.ownsRow base 100 2 (vs[y]?.getD (.slice none 0 0)) (L y).length (runCells (L y))) := fun w' hf => (HRR.out w' hf).at_ y hyH
      obtain ⟨ao0, c0, e0⟩ := own_slice (HRW.out wr HF.out)
      rw [e0] at k0 HRW
      clear e0
      go_wp2_with fail
      go_loopg [3, 17] (L y).length (fun q l k wr => ∃ (i : Nat), i + q = (L y).length ∧ k = .int .i64 i ∧ wr.ownsRow w.heap.size 102 3 l (offL L y + i) (lineCells (lnsTo L y ++ ((L y).take i).map fun r => (y, r.1, r.2))) ∧ Fr (fun _ => False) w wr)
      case atStart => exact ⟨0, by omega, rfl, by simpa using HO.out, HF.out⟩
      case round =>
        clear HO HF k0
        obtain ⟨i, hq, rfl, ho, hfr⟩ := hrel
        have HO : Hid (wr.ownsRow w.heap.size 102 3 u3 (offL L y + i) (lineCells (lnsTo L y ++ ((L y).take i).map fun r => (y, r.1, r.2)))) := ho
        have HF : Hid (Fr (fun _ => False) w wr) := hfr
        clear ho hfr
        by_cases hin : i < (L y).length
        · have di : decide (i < (L y).length) = true := decide_eq_true hin
          obtain ⟨g0, kc, eA, _⟩ := row_form (HRW.out wr HF.out) (by omega)
          simp only [Value.slice.injEq] at eA
          obtain ⟨rfl, _, rfl⟩ := eA
          obtain ⟨r0, r1⟩ := run_read (HRW.out wr HF.out) hin
          have HTK : Hid ((L y).take (i + 1) = (L y).take i ++ [((L y)[i].1, (L y)[i].2)]) := by
            show _ = _
            rw [List.take_add_one, List.getElem?_eq_getElem hin]; rfl
          generalize (L y)[i].1 = a1 at *
          generalize (L y)[i].2 = a2 at *
          have hsz : w.heap.size ≤ wr.heap.size := HF.out.size
          go_wp2_with (first | (at_builtin; refine wpList_append_own _ rfl _ _ 66 rfl w.heap.size 102 i0 (.agg #[.int .i64 0, .int .i64 0, .int .i64 0]) 3 24 Try.underlying66 hi hz0 hz1 hz2 rfl (by decide) _ _ _ rfl ((HO.out.alloc _).alloc _) ⟨wr.heap.size + 1, 0, none⟩ 1 1 _ rfl rfl (cell_three_new2 _ _ _ _ _ _) ?_ ?_ ?_ ?_ ?_))
          · intro u hu; simp at hu; rcases hu with rfl | rfl | rfl <;> rfl
          · unfold maxLen; omega
          · omega
          · simp; omega
          · intro v' w2 hown2 hgrow2 _
            have HF2 : Hid (Fr (fun _ => False) w w2) := ((HF.out.alloc _).alloc _).grown hgrow2 (fun k hk hlt => by have := (HO.out.lt k hk).1; omega)
            have HO2 : Hid (w2.ownsRow w.heap.size 102 3 v' (offL L y + (i + 1)) (lineCells (lnsTo L y ++ ((L y).take (i + 1)).map fun r => (y, r.1, r.2)))) := by
              rw [HTK.out, List.map_append, ← List.append_assoc, lineCells_append _ (List.map _ [_])]; rw [← List.map_take] at hown2; exact hown2
            clear hown2 hgrow2
            go_wp2_with fail
            go_roundg ((L y).length - (i + 1))
            case measure => omega
            case rel => exact ⟨i + 1, by omega, rfl, HO2.out, HF2.out⟩
        · have di : decide (i < (L y).length) = false := decide_eq_false hin
          have HO2 : Hid (wr.ownsRow w.heap.size 102 3 u3 (offL L (y + 1)) (lineCells (lnsTo L (y + 1)))) := by
            have := HO.out
            rw [show i = (L y).length by omega, List.take_length] at this
            exact this
          go_wp2_with fail
          go_roundg (H - (y + 1))
          case measure => omega
          case rel => exact ⟨y + 1, by omega, rfl, HO2.out, HF.out⟩
    · have dy : decide (y < H) = false := decide_eq_false hyH
      have HO2 : Hid (wr.ownsRow w.heap.size 102 3 u3 (offL L H) (lineCells (lnsTo L H))) := by
        have := HO.out
        rwa [show y = H by omega] at this
      go_wp2_with fail
      go_ret
      exact ⟨_, rfl, HO2.out, HF.out⟩

end Go.Proofs.Ytgpciopoionmeaa
