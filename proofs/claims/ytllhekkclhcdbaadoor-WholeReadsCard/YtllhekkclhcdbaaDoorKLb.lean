/- 'Lend' and 'Back', of bytes. -/
import Derived.Test.YtllhekkclhcdbaaDoorKNk
import Derived.Test.YtllhekkclhcdbaaDoorK2
import Derived.Test.YtllhekkclhcdbaaDoorKFlush
namespace Go.Proofs.YtllhekkclhcdbaaDoor
open Go.RowKit

def marksY (l : List Nat) (k : Nat) : List Nat := l ++ List.replicate k 165
theorem marksY_zero (l : List Nat) : marksY l 0 = l := by simp [marksY]
theorem marksY_succ (l : List Nat) (k : Nat) : marksY l (k + 1) = marksY l k ++ [165] := by unfold marksY; rw [List.replicate_succ', List.append_assoc]
theorem length_marksY (l : List Nat) (k : Nat) : (marksY l k).length = l.length + k := by simp [marksY]

theorem byteCells_take (l : List Nat) (k : Nat) : (byteCells l).take k = byteCells (l.take k) := by simp [byteCells, List.map_take]
/-- Bytes that are lent, with marks behind them. -/
def LentY (w : World) (g : Nat) (l : List Nat) : Prop := w.ownsRow 0 5 1 (.slice (some ⟨g, 0, none⟩) (l.length + 7) (l.length + 7)) (l.length + 7) (byteCells (marksY l 7))
theorem LentY.kept {S : Nat → Prop} {w w' : World} {g : Nat} {l : List Nat} (h : LentY w g l) (f : Fr S w w') (h1 : ¬ S g) : LentY w' g l :=
  row_kept h f (fun k hk => by simp [Value.ownBlock] at hk; subst hk; exact h1)
theorem LentY.lt {w : World} {g : Nat} {l : List Nat} (h : LentY w g l) : g < w.heap.size := (World.ownsRow.lt h g rfl).2

set_option maxRecDepth 100000 in
set_option maxHeartbeats 2000000 in
theorem lendY_any (v : Value) (l : List Nat) (w : World) (hl : l.length ≤ 140737488351232) (hv : SeenAt w v l) (hnil : NilOK v) :
    Calls Tryd.prog 14 #[v] w fun e w' => ∃ g, e = .returned (.slice (some ⟨g, 0, none⟩) l.length (l.length + 7)) ∧ LentY w' g l ∧ w.heap.size ≤ g ∧ Fr (fun _ => False) w w' := by
  obtain ⟨i0, hi, hz0, hz1, hz2⟩ := info_parts Tryd.info5
  obtain ⟨ao, cap, rfl, _, hc⟩ := hv
  have HC : Hid (l ≠ [] → ∃ b off, ao = some ⟨b, off, none⟩ ∧ ∀ j, j < l.length → w.cell? ⟨b, off + j, none⟩ = some (.int .u8 (l[j]?.getD 0 : Nat))) := hc
  have HNO : Hid (ao = none → l.length = 0 ∧ cap = 0) := fun e => hnil _ _ (by rw [e])
  have HLE : Hid (∀ (u : World) (g n : Nat), n = l.length → u.ownsRow 0 5 1 (.slice (some ⟨g, 0, none⟩) (n + 7) (n + 7)) (n + 7) (byteCells (marksY l 7)) → LentY u g l) := fun u g n e h => by subst e; exact h
  clear hc hnil
  obtain ⟨n, hn⟩ : ∃ n, n = l.length := ⟨_, rfl⟩
  rw [← hn] at hl HNO ⊢
  have HN : Hid (n = l.length) := hn
  clear hn
  go_enter Tryd.func14, Tryd.ntmps14
  obtain ⟨B, hB⟩ : ∃ B, B = w.heap.size := ⟨_, rfl⟩
  rw [← hB]
  go_wp2_with (first | (at_make; refine wpList_make_own _ rfl _ _ 24 rfl B 5 i0 (.int .u8 0) 1 Tryd.underlying24 hi hz0 hz1 .i64 .i64 _ (n + 7) rfl rfl ?_ ?_ ?_ ?_ ?_))
  · omega
  · rw [hz2]; omega
  · unfold maxLen; omega
  · omega
  · intro w1 hown1 hgrow1
    have HB1 : Hid (Fr (fun _ => False) w w1) := (Fr.refl _ _).grown hgrow1 (fun k hk _ => by cases hk)
    rw [← hB] at hown1 ⊢
    have HBE : Hid (B = w.heap.size) := hB
    clear hgrow1 hB
    go_wp2_with (first | (at_builtin; refine wpList_append_fits_any _ rfl _ _ 24 rfl B 5 i0 1 Tryd.underlying24 hi hz1 B 0 (n + 7) [] rfl hown1 ao n cap (byteCells l) rfl ?_ ?_ ?_ ?_ ?_ ?_))
    · rw [length_byteCells, ← HN.out]; omega
    · intro e
      exact HNO.out e
    · intro ad e j u hu
      have hne : l ≠ [] := by intro e2; rw [e2] at hu; simp [byteCells] at hu
      obtain ⟨b, off, e3, hc⟩ := HC.out hne
      rw [e3] at e
      simp only [Option.some.injEq] at e
      subst e
      rw [byteCells_get] at hu
      have hj : j < l.length := by
        rcases Nat.lt_or_ge j l.length with h | h
        · exact h
        · rw [List.getElem?_eq_none h] at hu; simp at hu
      rw [List.getElem?_eq_getElem hj] at hu
      simp at hu
      subst hu
      rw [show (⟨b, off, none⟩ : Addr).add j = ⟨b, off + j, none⟩ from by unfold Addr.add; split <;> simp_all]
      have h1 := hc j hj
      rw [List.getElem?_eq_getElem hj] at h1
      exact HB1.out.cell h1 (fun h => h)
    · exact byteCells_one l
    · omega
    · intro w2 hown2 hgrow2
      have HB2 : Hid (Fr (fun _ => False) w w2) := HB1.out.grown hgrow2 (fun k hk hlt => by simp at hk; have := HBE.out; omega)
      have HO2 : Hid (w2.ownsRow B 5 1 (.slice (some ⟨B, 0, none⟩) (n + 0) (n + 7)) (n + 0) (byteCells (marksY l 0))) := by
        rw [marksY_zero]
        exact hown2
      clear hown1 hown2 hgrow2
      go_wp2_with fail
      go_loopw [3, 4] (fun x i wr => ∃ k : Nat, k ≤ 7 ∧ i = .int .i64 k ∧ x = .slice (some ⟨B, 0, none⟩) (n + k) (n + 7) ∧ wr.ownsRow B 5 1 (.slice (some ⟨B, 0, none⟩) (n + k) (n + 7)) (n + k) (byteCells (marksY l k)) ∧ Fr (fun _ => False) w wr) (fun _ i _ => 7 - (intOf i).toNat)
      case atStart => exact ⟨0, by omega, rfl, by simp, HO2.out, HB2.out⟩
      case round =>
        obtain ⟨k, hk, rfl, rfl, hown, hbel⟩ := hrel
        have HO : Hid (wr.ownsRow B 5 1 (.slice (some ⟨B, 0, none⟩) (n + k) (n + 7)) (n + k) (byteCells (marksY l k))) := hown
        have HB3 : Hid (Fr (fun _ => False) w wr) := hbel
        have hs : B ≤ wr.heap.size := by have := hbel.size; have := HBE.out; omega
        clear hbel
        by_cases hlt : k < 7
        · go_wp2_with (first | (at_builtin; refine wpList_append_fits _ rfl _ _ 24 rfl B 5 i0 1 Tryd.underlying24 hi hz1 B (n + k) (n + 7) (byteCells (marksY l k)) rfl (hown.alloc _) ⟨wr.heap.size, 0, none⟩ 1 1 _ rfl rfl (cell_one_new _ _ _) ?_ ?_ ?_))
          · intro u hu; simp at hu; subst hu; rfl
          · omega
          · intro w3 hown3 hgrow3
            have HO3 : Hid (w3.ownsRow B 5 1 (.slice (some ⟨B, 0, none⟩) (n + (k + 1)) (n + 7)) (n + (k + 1)) (byteCells (marksY l (k + 1)))) := by
              rw [marksY_succ, byteCells_append, show n + (k + 1) = n + k + 1 from by omega]; exact hown3
            have HB4 : Hid (Fr (fun _ => False) w w3) := (HB3.out.alloc _).grown hgrow3 (fun k hk hlt => by simp at hk; have := HBE.out; omega)
            clear hown3 hgrow3 hown
            go_wp2_with fail
            go_roundw
            case rel => exact ⟨k + 1, by omega, congrArg (Value.int .i64) (by omega), by rw [show n + (k + 1) = n + k + 1 from by omega], HO3.out, HB4.out⟩
            case measure => simp [intOf]; omega
        · have hk7 : k = 7 := by omega
          subst hk7
          clear hown
          go_wp2_with fail
          go_ret
          exact ⟨B, rfl, HLE.out _ _ n HN.out (ownsRow_base HO.out (fun _ _ => Nat.zero_le _)), by have := HBE.out; omega, HB3.out⟩

theorem marksY_get (l : List Nat) (k : Nat) (h : k < 7) : (marksY l 7)[l.length + k]? = some 165 := by
  unfold marksY
  rw [List.getElem?_append_right (by omega), show l.length + k - l.length = k from by omega, List.getElem?_replicate, if_pos h]
theorem marksY_front (l : List Nat) : (marksY l 7).take l.length = l := by
  unfold marksY
  rw [List.take_left]

theorem LentY.seen {w : World} {g : Nat} {l : List Nat} (h : LentY w g l) (hl : l.length ≤ 140737488351232) : SeenAt w (.slice (some ⟨g, 0, none⟩) l.length (l.length + 7)) l := by
  have h1 := row_shrink (k := l.length) h (by omega)
  rw [byteCells_take, marksY_front] at h1
  exact SeenAt.of_row h1 (by omega)

set_option maxRecDepth 100000 in
set_option maxHeartbeats 2000000 in
theorem backY_any (g : Nat) (u : Value) (l : List Nat) (w : World) (hl : l.length ≤ 140737488351232) (hrow : LentY w g l) (hu : SeenAt w u l) :
    Calls Tryd.prog 17 #[.slice (some ⟨g, 0, none⟩) l.length (l.length + 7), u] w fun e w' => e = .returned (.bool true) ∧ Fr (fun k => k = g) w w' := by
  have HRW : Hid (w.ownsRow 0 5 1 (.slice (some ⟨g, 0, none⟩) (l.length + 7) (l.length + 7)) (l.length + 7) (byteCells (marksY l 7))) := hrow
  have HSU : Hid (SeenAt w u l) := hu
  have HSX : Hid (SeenAt w (.slice (some ⟨g, 0, none⟩) l.length (l.length + 7)) l) := hrow.seen hl
  obtain ⟨uo, ucap, rfl, _, _⟩ := hu
  clear hrow
  go_enter Tryd.func17, Tryd.ntmps17
  go_wp2_with fail
  refine (eq_same _ _ l l _ HSX.out HSU.out rfl true (by show true = _; simp)).mono ?_
  rintro e w1 ⟨rfl, q, hw1⟩
  have HR1 : Hid (w1.ownsRow 0 5 1 (.slice (some ⟨g, 0, none⟩) (l.length + 7) (l.length + 7)) (l.length + 7) (byteCells (marksY l 7))) := by rw [hw1]; exact row_kept HRW.out ((Fr.refl (fun _ => False) _).drewN q) (fun _ _ hh => hh)
  have HF1 : Hid (Fr (fun k => k = g) w w1) := by rw [hw1]; exact (Fr.refl _ _).drewN q
  clear hw1 HRW HSU HSX
  obtain ⟨n, hn⟩ : ∃ n, n = l.length := ⟨_, rfl⟩
  rw [← hn] at hl HR1 ⊢
  have HN : Hid (n = l.length) := hn
  clear hn
  go_wp2_with fail
  go_loop [5, 7] (fun ok i => ∃ k : Nat, k ≤ 7 ∧ ok = .bool true ∧ i = .int .i64 ((n : Int) + (k : Int))) (fun _ i => n + 7 - (intOf i).toNat)
  case atStart => exact ⟨0, by omega, rfl, by simp⟩
  case round =>
    obtain ⟨k, hk, rfl, rfl⟩ := hrel
    by_cases hlt : k < 7
    · have hcx : w1.cell? ⟨g, n + k, none⟩ = some (.int .u8 165) := by
        rw [HR1.out.cellAt (n + k) (by omega), byteCells_get, HN.out, marksY_get l k hlt]; rfl
      go_wp2_with fail
      go_round
      case rel => exact ⟨k + 1, by omega, rfl, congrArg (Value.int .i64) (by omega)⟩
      case measure => simp [intOf]; omega
    · have hk7 : k = 7 := by omega
      subst hk7
      go_wp2_with fail
      go_loopw [8] (fun i wr => ∃ (k : Nat) (ys : List Value), k ≤ n + 7 ∧ i = .int .i64 k ∧ wr.ownsRow 0 5 1 (.slice (some ⟨g, 0, none⟩) (n + 7) (n + 7)) (n + 7) ys ∧ Fr (fun k => k = g) w wr) (fun i _ => n + 7 - (intOf i).toNat)
      case atStart => exact ⟨0, _, Nat.zero_le _, rfl, HR1.out, HF1.out⟩
      case round =>
        obtain ⟨k, ys, hk, rfl, hown, hfr⟩ := hrel
        have HO2 : Hid (wr.ownsRow 0 5 1 (.slice (some ⟨g, 0, none⟩) (n + 7) (n + 7)) (n + 7) ys) := hown
        have HF2 : Hid (Fr (fun k => k = g) w wr) := hfr
        by_cases hlt : k < n + 7
        · have hcx : ∃ x, wr.cell? ⟨g, k, none⟩ = some x := by
            rw [hown.cellAt k (by omega)]
            have hl := hown.1
            exact ⟨_, List.getElem?_eq_getElem (by omega)⟩
          obtain ⟨x, hcx⟩ := hcx
          have hfx := hown.frozenAt k
          clear hown hfr
          go_wp2_with fail
          go_roundw
          case rel => exact ⟨k + 1, _, by omega, congrArg (Value.int .i64) (by omega), (HO2.out.stored k _).1, HF2.out.setCell (p := ⟨g, k, none⟩) (fun _ => rfl) _⟩
          case measure => simp [intOf]; omega
        · clear hown hfr
          go_wp2_with fail
          go_ret
          exact ⟨rfl, HF2.out⟩

end Go.Proofs.YtllhekkclhcdbaaDoor
