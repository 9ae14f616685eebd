/- 'EqBitmaps' of alike rows; beginnings of rows. -/
import Derived.Test.YtodgdbbhllejkaaKWk
import Derived.Test.YtodgdbbhllejkaaKNe
namespace Go.Proofs.Ytodgdbbhllejkaa
open Go.RowKit

/-- Bitmaps in a row, as they are seen. -/
structure BmRow (w : World) (ao : Option Addr) (n : Nat) (B : Nat → Bp) : Prop where
  cells : 0 < n → ∃ b off, ao = some ⟨b, off, none⟩ ∧ ∀ j, j < n → w.cell? ⟨b, off + j * 3, none⟩ = some (.int .i64 (B j).x) ∧ w.cell? ⟨b, off + j * 3 + 1, none⟩ = some (.int .i64 (B j).y) ∧ w.cell? ⟨b, off + j * 3 + 2, none⟩ = some (B j).v
  seen : ∀ j, j < n → Seen w (B j).v (B j).l
theorem BmRow.kept {w w' : World} {ao : Option Addr} {n : Nat} {B : Nat → Bp} (h : BmRow w ao n B) (f : Fr (fun _ => False) w w') : BmRow w' ao n B := by
  refine ⟨fun hn => ?_, fun j hj => (h.seen j hj).kept f⟩
  obtain ⟨b, off, e, hc⟩ := h.cells hn
  refine ⟨b, off, e, fun j hj => ?_⟩
  obtain ⟨h1, h2, h3⟩ := hc j hj
  have hb := seen_lt h1
  exact ⟨by rw [f.cellEq hb (fun h => h)]; exact h1, by rw [f.cellEq hb (fun h => h)]; exact h2, by rw [f.cellEq hb (fun h => h)]; exact h3⟩
theorem BmRow.front {w : World} {ao : Option Addr} {n m : Nat} {B : Nat → Bp} (h : BmRow w ao n B) (hm : m ≤ n) : BmRow w ao m B := by
  refine ⟨fun h0 => ?_, fun j hj => h.seen j (by omega)⟩
  obtain ⟨b, off, e, hc⟩ := h.cells (by omega)
  exact ⟨b, off, e, fun j hj => hc j (by omega)⟩
theorem BpsAt.row {w : World} {ao : Option Addr} {n : Nat} {A : Nat → Bp} (h : BpsAt w ao n A) : BmRow w ao n A := ⟨h.cells, fun j hj => (h.ok j hj).hv⟩
theorem BpsAt.front {w : World} {ao : Option Addr} {n m : Nat} {A : Nat → Bp} (h : BpsAt w ao n A) (hm : m ≤ n) : BpsAt w ao m A := by
  refine ⟨by have := h.len; omega, fun h0 => ?_, fun j hj => h.ok j (by omega)⟩
  obtain ⟨b, off, e, hc⟩ := h.cells (by omega)
  exact ⟨b, off, e, fun j hj => hc j (by omega)⟩
/-- The classes' bitmaps. -/
def repB (A : Nat → Bp) (R : List Nat) (U : Nat → Value) : Nat → Bp := fun c => ⟨(A (R.getD c 0)).x, (A (R.getD c 0)).y, U c, (A (R.getD c 0)).l⟩
theorem Mat.row {w : World} {base : Nat} {cv : Value} {ar : Option Addr} {nr cr : Nat} {A : Nat → Bp} {C R : List Nat} {U : Nat → Value} (h : Mat w base cv (.slice ar nr cr) A C R U) (hl : ∀ c, c < R.length → (A (R.getD c 0)).l.length ≤ 9223372036854775807) : BmRow w ar R.length (repB A R U) := by
  refine ⟨fun h0 => ?_, fun c hc => Seen.of_row (h.words c hc) (hl c hc)⟩
  obtain ⟨g, c', e, _⟩ := row_form h.reps h0
  cases e
  refine ⟨g, 0, rfl, fun j hj => ?_⟩
  obtain ⟨r1, r2, r3⟩ := repCells_at A U R R.length j hj
  rw [Nat.zero_add]
  exact ⟨(h.reps.cellAt (j * 3) (by omega)).trans r1, (h.reps.cellAt (j * 3 + 1) (by omega)).trans r2, (h.reps.cellAt (j * 3 + 2) (by omega)).trans r3⟩

set_option maxRecDepth 100000 in
set_option maxHeartbeats 2000000 in
theorem eqBitmaps_same (ao bo : Option Addr) (n ca cb : Nat) (A B : Nat → Bp) (w : World) (hn : n ≤ 1048576) (ha : BmRow w ao n A) (hb : BmRow w bo n B) (he : ∀ j, j < n → (A j).x = (B j).x ∧ (A j).y = (B j).y ∧ (A j).l = (B j).l) :
    Calls Try.prog 18 #[.slice ao n ca, .slice bo n cb] w fun e w' => e = .returned (.bool true) ∧ Fr (fun _ => False) w w' := by
  have HA : Hid (∀ w', Fr (fun _ => False) w w' → BmRow w' ao n A) := fun w' f => ha.kept f
  have HB : Hid (∀ w', Fr (fun _ => False) w w' → BmRow w' bo n B) := fun w' f => hb.kept f
  have HE : Hid (∀ j, j < n → (A j).x = (B j).x ∧ (A j).y = (B j).y ∧ (A j).l = (B j).l) := he
  have hnn : ((n : Int) != (n : Int)) = false := by simp
  clear ha hb he
  go_enter Try.func18, Try.ntmps18
  go_wp2_with fail
  go_loopg [5] n (fun q ii wr => ∃ (i : Nat), i + q = n ∧ ii = .int .i64 (i : Int) ∧ Fr (fun _ => False) w wr)
  case atStart => exact ⟨0, by omega, rfl, Fr.refl _ _⟩
  case round =>
    obtain ⟨i, hiq, rfl, hfr⟩ := hrel
    have HFr : Hid (Fr (fun _ => False) w wr) := hfr
    clear hfr
    by_cases hin : i < n
    · have di : decide (i < n) = true := decide_eq_true hin
      obtain ⟨b, off, hao, hcc⟩ := (HA.out w (Fr.refl _ _)).cells (by omega)
      obtain ⟨b', off', hbo, hcd⟩ := (HB.out w (Fr.refl _ _)).cells (by omega)
      subst hao hbo
      obtain ⟨e1, e2, e3⟩ := HE.out i hin
      obtain ⟨av, cv, hv, -⟩ := (HA.out w (Fr.refl _ _)).seen i hin
      obtain ⟨bv, cv', hv', -⟩ := (HB.out w (Fr.refl _ _)).seen i hin
      have HS : Hid (∀ w', Fr (fun _ => False) w w' → (w'.cell? ⟨b, off + i * 3, none⟩ = some (.int .i64 (A i).x) ∧ w'.cell? ⟨b, off + i * 3 + 1, none⟩ = some (.int .i64 (A i).y) ∧ w'.cell? ⟨b, off + i * 3 + 2, none⟩ = some (.slice av (A i).l.length cv)) ∧ (w'.cell? ⟨b', off' + i * 3, none⟩ = some (.int .i64 (A i).x) ∧ w'.cell? ⟨b', off' + i * 3 + 1, none⟩ = some (.int .i64 (A i).y) ∧ w'.cell? ⟨b', off' + i * 3 + 2, none⟩ = some (.slice bv (A i).l.length cv'))) := fun w' f => by
        have h1 := hcc i hin
        have h2 := hcd i hin
        rw [← e1, ← e2, hv', ← e3] at h2
        rw [hv] at h1
        have l1 := seen_lt h1.1
        have l2 := seen_lt h2.1
        refine ⟨⟨?_, ?_, ?_⟩, ?_, ?_, ?_⟩
        · rw [f.cellEq l1 (fun h => h)]; exact h1.1
        · rw [f.cellEq l1 (fun h => h)]; exact h1.2.1
        · rw [f.cellEq l1 (fun h => h)]; exact h1.2.2
        · rw [f.cellEq l2 (fun h => h)]; exact h2.1
        · rw [f.cellEq l2 (fun h => h)]; exact h2.2.1
        · rw [f.cellEq l2 (fun h => h)]; exact h2.2.2
      have HQ : Hid (∀ w', Fr (fun _ => False) w w' → Calls Try.prog 23 #[.agg #[.int .i64 (A i).x, .int .i64 (A i).y, .slice av (A i).l.length cv], .agg #[.int .i64 (A i).x, .int .i64 (A i).y, .slice bv (A i).l.length cv']] w' fun e w'' => e = .returned (.bool true) ∧ Fr (fun _ => False) w' w'') := fun w' f => by
        have s1 := (HA.out w' f).seen i hin
        have s2 := (HB.out w' f).seen i hin
        rw [hv] at s1
        rw [hv', ← e3] at s2
        exact eqBitmap_int (A i).x (A i).y _ _ (A i).l w' s1 s2
      clear hcc hcd e1 e2 e3 hv hv'
      generalize (A i).x = x at *
      generalize (A i).y = y at *
      generalize (A i).l.length = nl at *
      go_wp2_with fail
      go_region_held3 (fun w' => (w'.cell? ⟨b, off + i * 3, none⟩ = some (.int .i64 x) ∧ w'.cell? ⟨b, off + i * 3 + 1, none⟩ = some (.int .i64 y) ∧ w'.cell? ⟨b, off + i * 3 + 2, none⟩ = some (.slice av nl cv)) ∧ (w'.cell? ⟨b', off' + i * 3, none⟩ = some (.int .i64 x) ∧ w'.cell? ⟨b', off' + i * 3 + 1, none⟩ = some (.int .i64 y) ∧ w'.cell? ⟨b', off' + i * 3 + 2, none⟩ = some (.slice bv nl cv'))) (first | exact HS.out _ HFr.out.drew | exact HS.out _ hf5'.out) (first | (go_at_call 23; refine (HQ.out _ HFr.out.drew).mono ?_; rintro e w5 ⟨rfl, hf5⟩; (have hf5' : Hid (Fr (fun _ => False) w w5) := HFr.out.drew.trans hf5 (fun _ _ h => h)); clear hf5))
      go_wp2_with fail
      go_roundg (n - (i + 1))
      case measure => omega
      case rel => exact ⟨i + 1, by omega, by go_num, hf5'.out⟩
    · have di : decide (i < n) = false := decide_eq_false hin
      go_wp2_with fail
      go_ret
      exact ⟨rfl, HFr.out⟩

theorem clC_take (nr : Nat → Nat → Bool) {m : Nat} : ∀ {n : Nat}, m ≤ n → (clC nr n).take m = clC nr m
  | 0, h => by obtain rfl : m = 0 := by omega
               rfl
  | n + 1, h => by
    by_cases e : m = n + 1
    · subst e; exact List.take_of_length_le (by rw [length_clC]; exact Nat.le_refl _)
    · show (clC nr n ++ [_]).take m = _
      rw [List.take_append_of_le_length (by rw [length_clC]; omega)]
      exact clC_take nr (by omega)
theorem clR_front (nr : Nat → Nat → Bool) {m c : Nat} : ∀ {n : Nat}, m ≤ n → c < (clR nr m).length → (clR nr n).getD c 0 = (clR nr m).getD c 0
  | 0, h, _ => by obtain rfl : m = 0 := by omega
                  rfl
  | n + 1, h, hc => by
    by_cases e : m = n + 1
    · subst e; rfl
    · have := clR_mono nr (show m ≤ n by omega)
      rw [clR_getD nr n c (by omega)]
      exact clR_front nr (by omega) hc
theorem SeenI.front {w : World} {ao : Option Addr} {n c m : Nat} {l : List Nat} (h : SeenI w (.slice ao n c) l) (hm : m ≤ n) : SeenI w (.slice ao m c) (l.take m) := by
  obtain ⟨a, c', e, hl, hc⟩ := h
  simp only [Value.slice.injEq] at e
  obtain ⟨rfl, rfl, rfl⟩ := e
  have hlen : (l.take m).length = m := by rw [List.length_take]; omega
  refine ⟨ao, c, by rw [hlen], by omega, fun hne => ?_⟩
  have h0 : l ≠ [] := by intro e; subst e; simp at hne
  obtain ⟨b, off, e, hcc⟩ := hc h0
  refine ⟨b, off, e, fun j hj => ?_⟩
  rw [hlen] at hj
  rw [hcc j (by omega), List.getElem?_take_of_lt hj]

end Go.Proofs.Ytodgdbbhllejkaa
