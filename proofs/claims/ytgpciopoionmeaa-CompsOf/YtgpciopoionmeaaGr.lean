/- 'grown': the forest of all rows. -/
import Derived.Test.YtgpciopoionmeaaJo
namespace Go.Proofs.Ytgpciopoionmeaa
open Go.RowKit

theorem apart_len2 {hi : Nat} : ∀ {lo : Nat} {l : List (Nat × Nat)}, Apart hi lo l → lo ≤ hi + 1 → lo + 2 * l.length ≤ hi + 1
  | _, [], _, h => by simpa using h
  | _, (a, b) :: t, ⟨h1, h2, h3, h4⟩, _ => by
    have := apart_len2 h4 (by omega)
    simp only [List.length_cons]; omega
theorem rows_len (W : Nat) (P : Nat → Nat → Bool) (hW : 1 ≤ W) (y : Nat) : (rowsF W P y).length ≤ W := by
  have := apart_len2 (rl_apart (fun x => P x y) W) (by omega)
  unfold rowsF; omega
theorem offL_le (W : Nat) (P : Nat → Nat → Bool) (hW : 1 ≤ W) : ∀ H, offL (rowsF W P) H ≤ W * H
  | 0 => by simp [offL]
  | H + 1 => by
    have h1 := offL_le W P hW H
    have h2 := rows_len W P hW H
    simp only [offL]
    rw [Nat.mul_add, Nat.mul_one]; omega

theorem Try.infoInt : (Try.prog.info? 3).map (fun i => (i.zero, i.size, i.bytes)) = some (some (.int .i64 0), 1, 8) := by kernel_rfl

/-- The numbers below i, each its own parent; nothing behind. -/
def selfF (i : Nat) : Nat → Nat := fun k => if k < i then k else 0
theorem selfF_dn (i : Nat) : Dn (selfF i) := fun k => by unfold selfF; split <;> omega
theorem selfF_rt {i k : Nat} (h : k < i) : rt (selfF i) k = k := rt_self (by unfold selfF; rw [if_pos h])
theorem selfF_put {n i : Nat} : intCells n (upd (selfF i) i i) = intCells n (selfF (i + 1)) := by
  unfold intCells
  apply List.map_congr_left
  intro k _
  congr 2
  unfold upd selfF
  split
  · rename_i e; subst e; rw [if_pos (by omega)]
  · split <;> split <;> omega
theorem intCells_zero (n : Nat) : List.replicate n (Value.int .i64 0) = intCells n (selfF 0) := by
  apply List.ext_getElem?
  intro k
  by_cases h : k < n
  · rw [intCells_get _ h, List.getElem?_replicate, if_pos h]; rfl
  · rw [List.getElem?_eq_none (by simp; omega), List.getElem?_eq_none (by rw [length_intCells]; omega)]

/-- What touches in the rows up to y has been put together. -/
def Rowed (W : Nat) (P : Nat → Nat → Bool) (y : Nat) (f : Nat → Nat) : Prop :=
  ∀ (z a b : Nat) (ha : a < (rowsF W P z).length) (hb : b < (rowsF W P (z + 1)).length), z + 1 < y → (rowsF W P z)[a].1 ≤ (rowsF W P (z + 1))[b].2 → (rowsF W P (z + 1))[b].1 ≤ (rowsF W P z)[a].2 → rt f (offL (rowsF W P) z + a) = rt f (offL (rowsF W P) (z + 1) + b)
theorem grown_of {W H : Nat} {P : Nat → Nat → Bool} {f : Nat → Nat} (hd : Dn f) (hk : Kin (offL (rowsF W P) H) (fun i j => PC (Bk W H P) (rep (rowsF W P) H i) (rep (rowsF W P) H j)) f) (hr : Rowed W P H f) : Grown W H P f := by
  refine ⟨hd, hk, fun i j hi hj hy ht => ?_⟩
  obtain ⟨y, a, hy', ha, rfl⟩ := lnsTo_inv _ hi
  obtain ⟨z, b, hz', hb, rfl⟩ := lnsTo_inv _ hj
  rw [ln_at _ hy' ha, ln_at _ hz' hb] at hy ht
  simp only at hy
  subst hy
  exact hr y a b ha hb hz' ht.1 ht.2
theorem T_of {W H : Nat} {P : Nat → Nat → Bool} {y : Nat} (hy : y + 1 < H) (a b : Nat) (ha : a < (rowsF W P y).length) (hb : b < (rowsF W P (y + 1)).length) (h1 : (rowsF W P y)[a].1 ≤ (rowsF W P (y + 1))[b].2) (h2 : (rowsF W P (y + 1))[b].1 ≤ (rowsF W P y)[a].2) :
    PC (Bk W H P) (rep (rowsF W P) H (offL (rowsF W P) y + a)) (rep (rowsF W P) H (offL (rowsF W P) y + (rowsF W P y).length + b)) := by
  have l1 := offL_mono (rowsF W P) (y := y + 1) (z := H) (by omega)
  have l2 := offL_mono (rowsF W P) (y := y + 1 + 1) (z := H) (by omega)
  simp only [offL] at l1 l2
  refine touch_pc (by omega) (by omega) ?_ ?_
  · rw [ln_at _ (by omega) ha, show offL (rowsF W P) y + (rowsF W P y).length + b = offL (rowsF W P) (y + 1) + b from rfl, ln_at _ hy hb]
  · rw [ln_at _ (by omega) ha, show offL (rowsF W P) y + (rowsF W P y).length + b = offL (rowsF W P) (y + 1) + b from rfl, ln_at _ hy hb]
    exact ⟨h1, h2⟩
theorem eqv_pc {B : Nat × Nat → Prop} (φ : Nat → Nat × Nat) : Eqv (fun i j => PC B (φ i) (φ j)) := ⟨fun h => h.symm, fun h k => h.trans k⟩

set_option maxRecDepth 100000 in
set_option maxHeartbeats 4000000 in
theorem grown_ok (W H base gR : Nat) (P : Nat → Nat → Bool) (vs : List Value) (w : World) (h1 : 1 ≤ W) (h2 : 1 ≤ H) (h3 : W * H ≤ 1048576) (hr : OwnRR w base gR H H (rowsF W P) vs) :
    Calls Try.prog 37 #[.slice (some ⟨gR, 0, none⟩) H H, .int .i64 (offL (rowsF W P) H : Nat)] w fun e w' => ∃ g f, e = .returned (.slice (some ⟨g, 0, none⟩) (offL (rowsF W P) H) (offL (rowsF W P) H)) ∧ w.heap.size ≤ g ∧ FoAt w' g (offL (rowsF W P) H) f ∧ Grown W H P f ∧ Fr (fun _ => False) w w' := by
  obtain ⟨i0, hi, hz0, hz1, hz2⟩ := info_parts Try.infoInt
  have hN := offL_le W P h1 H
  have HRR : Hid (∀ w', Fr (fun _ => False) w w' → OwnRR w' base gR H H (rowsF W P) vs) := fun w' hf => hr.kept hf (fun _ _ h => h)
  have hHb : H ≤ 1048576 := Nat.le_trans (Nat.le_mul_of_pos_left H h1) h3
  clear hr
  have HG : Hid (∀ f, Dn f → Kin (offL (rowsF W P) H) (fun i j => PC (Bk W H P) (rep (rowsF W P) H i) (rep (rowsF W P) H j)) f → Rowed W P H f → Grown W H P f) := fun f => grown_of
  have HOF : Hid (∀ y, y < H → offL (rowsF W P) y + (rowsF W P y).length ≤ offL (rowsF W P) H) := fun y hy => offL_mono (rowsF W P) (y := y + 1) (z := H) (by omega)
  have HKS : Hid (Kin (offL (rowsF W P) H) (fun i j => PC (Bk W H P) (rep (rowsF W P) H i) (rep (rowsF W P) H j)) (selfF (offL (rowsF W P) H))) := fun i j hi hj e => by
    rw [selfF_rt hi, selfF_rt hj] at e
    subst e
    exact .refl (ln_black hi (rep_in hi))
  generalize hNN : offL (rowsF W P) H = N at *
  go_enter Try.func37, Try.ntmps37
  go_wp2_with (first | (at_make; refine wpList_make_full _ rfl _ _ 70 rfl w.heap.size 3 i0 (.int .i64 0) 1 Try.underlying70 hi hz0 hz1 .i64 .i64 _ _ N rfl rfl ?_ ?_ ?_ ?_ ?_ ?_))
  · rfl
  · rfl
  · rw [hz2]; omega
  · unfold maxLen; omega
  · omega
  · intro w2 hown hgrow
    have HF2 : Hid (Fr (fun _ => False) w w2) := (Fr.refl _ _).grown hgrow (fun _ e _ => by cases e)
    have HO : Hid (FoAt w2 w.heap.size N (selfF 0)) := by
      have := ownsRow_base (b' := 0) hown (fun _ _ => Nat.zero_le _)
      rw [toList_madeCells_one, intCells_zero] at this
      exact this
    clear hown hgrow
    obtain ⟨g, HLK⟩ : ∃ g, Hid (g = w.heap.size) := ⟨_, rfl⟩
    rw [← HLK.out] at HO
    rw [← HLK.out]
    have HGE : Hid (∀ i, i < w.heap.size → i = g → False) := fun i a b => by have := HLK.out; omega
    go_wp2_with fail
    go_loopg [6, 13] N (fun q iv k wr => ∃ (i : Nat), i + q = N ∧ k = .int .i64 i ∧ FoAt wr g N (selfF i) ∧ Fr (fun _ => False) w wr)
    case atStart => exact ⟨0, by omega, rfl, HO.out, HF2.out⟩
    case round =>
      obtain ⟨i, hq, rfl, ho, hfr⟩ := hrel
      have HOi : Hid (FoAt wr g N (selfF i)) := ho
      have HFi : Hid (Fr (fun _ => False) w wr) := hfr
      clear ho hfr HO HF2
      by_cases hin : i < N
      · have di : decide (i < N) = true := decide_eq_true hin
        have c0 := HOi.out.cell hin
        have z0 := HOi.out.frozenAt i
        go_wp2_with fail
        go_roundg (N - (i + 1))
        case measure => omega
        case rel =>
          refine ⟨i + 1, by omega, rfl, ?_, HFi.out.setCell (p := ⟨g, i, none⟩) (fun h => HGE.out _ h rfl) _⟩
          have := HOi.out.put hin i
          unfold FoAt at this ⊢
          rwa [selfF_put] at this
      · have hie : i = N := by omega
        have di : decide (i < N) = false := decide_eq_false hin
        have HOn : Hid (FoAt wr g N (selfF N)) := by have := HOi.out; rwa [hie] at this
        clear HOi hq hin hie
        go_wp2_with fail
        go_loopg [7, 8] (H - 1) (fun q fv yv wr => ∃ (y : Nat) (f : Nat → Nat), y + 1 + q = H ∧ yv = .int .i64 (y + 1 : Nat) ∧ fv = .int .i64 (offL (rowsF W P) y : Nat) ∧ FoAt wr g N f ∧ Dn f ∧ Kin N (fun i j => PC (Bk W H P) (rep (rowsF W P) H i) (rep (rowsF W P) H j)) f ∧ Rowed W P (y + 1) f ∧ Fr (fun _ => False) w wr)
        case atStart => exact ⟨0, selfF N, by omega, rfl, rfl, HOn.out, selfF_dn N, HKS.out, fun z a b ha hb h => by omega, HFi.out⟩
        case round =>
          clear HOn HFi HKS
          obtain ⟨y, f, hq, rfl, rfl, ho, hd, hk, hrw, hfr⟩ := hrel
          have HO : Hid (FoAt wr g N f) := ho
          have HD : Hid (Dn f) := hd
          have HK : Hid (Kin N (fun i j => PC (Bk W H P) (rep (rowsF W P) H i) (rep (rowsF W P) H j)) f) := hk
          have HRW : Hid (Rowed W P (y + 1) f) := hrw
          have HF : Hid (Fr (fun _ => False) w wr) := hfr
          clear ho hd hk hrw hfr
          by_cases hyH : y + 1 < H
          · have dy : decide (y + 1 < H) = true := decide_eq_true hyH
            have HY : Hid (offL (rowsF W P) y + (rowsF W P y).length + (rowsF W P (y + 1)).length ≤ N) := HOF.out (y + 1) hyH
            have hoy := HOF.out y (by omega)
            have HRD : Hid (∀ w', Fr (fun _ => False) w w' → w'.cell? ⟨gR, y, none⟩ = some (vs[y]?.getD (.slice none 0 0)) ∧ w'.cell? ⟨gR, y + 1, none⟩ = some (vs[y + 1]?.getD (.slice none 0 0))) := fun w' hf => by
              have ho := (HRR.out w' hf).own
              have hl := ho.1
              refine ⟨(ho.cellAt y (by omega)).trans ?_, (ho.cellAt (y + 1) (by omega)).trans ?_⟩
              · rw [List.getElem?_eq_getElem (by omega)]; rfl
              · rw [List.getElem?_eq_getElem (by omega)]; rfl
            have HJ : Hid (∀ w', Fr (fun _ => False) w w' → FoAt w' g N f → Calls Try.prog 57 #[.slice (some ⟨g, 0, none⟩) N N, vs[y]?.getD (.slice none 0 0), vs[y + 1]?.getD (.slice none 0 0), .int .i64 (offL (rowsF W P) y : Nat)] w' fun e w'' => ∃ f', e = .returned (.tuple #[]) ∧ FoAt w'' g N f' ∧ Dn f' ∧ Kin N (fun i j => PC (Bk W H P) (rep (rowsF W P) H i) (rep (rowsF W P) H j)) f' ∧ Rowed W P (y + 1 + 1) f' ∧ Fr (fun k => k = g) w' w'') := fun w' hf ho => by
              refine (join_any g N (offL (rowsF W P) y) W base base (rowsF W P y) (rowsF W P (y + 1)) _ _ f _ w' (eqv_pc _) HY.out (by omega) HD.out ho ((HRR.out w' hf).at_ y (by omega)) ((HRR.out w' hf).at_ (y + 1) hyH) (rl_apart _ W) (rl_apart _ W) HK.out (fun a b ha hb => T_of hyH a b ha hb)).mono ?_
              rintro e w'' ⟨f', rfl, a1, a2, a3, a4, a5, a6⟩
              refine ⟨f', rfl, a1, a2, a3, fun z a b ha hb hz t1 t2 => ?_, a6⟩
              by_cases e : z = y
              · subst e; exact a5 a b ha hb t1 t2
              · exact a4 _ _ (HRW.out z a b ha hb (by omega) t1 t2)
            obtain ⟨ao0, c0, e0⟩ := own_slice ((HRR.out wr HF.out).at_ y (by omega))
            obtain ⟨ao1, c1, e1⟩ := own_slice ((HRR.out wr HF.out).at_ (y + 1) hyH)
            rw [e0, e1] at HRD HJ
            clear e0 e1 HRR HRW HK HD
            have g6 : IntKind.i64.wrap ((offL (rowsF W P) y : Int) + ((rowsF W P y).length : Int)) = ((offL (rowsF W P) (y + 1) : Nat) : Int) := by rw [IntKind.wrap_i64]; simp only [offL]; omega
            clear HY
            generalize hY : y + 1 = Y at *
            have g1 : IntKind.i64.wrap ((Y : Int) - 1) = (y : Int) := by rw [IntKind.wrap_i64]; omega
            have g2 : (0 : Int) ≤ (y : Int) := by omega
            have g3 : (y : Int) < (H : Int) := by omega
            have g4 : (0 : Int) ≤ (Y : Int) := by omega
            have g5 : (Y : Int) < (H : Int) := by omega
            go_wp2_with fail
            go_region_held3 (fun w' => w'.cell? ⟨gR, y, none⟩ = some (.slice ao0 (rowsF W P y).length c0) ∧ w'.cell? ⟨gR, Y, none⟩ = some (.slice ao1 (rowsF W P Y).length c1)) (exact HRD.out _ (by repeat (first | with_reducible exact HF.out | with_reducible refine Fr.drew ?_ | with_reducible exact hf4))) (first | (go_at_call 57; refine (HJ.out _ HF.out.drew (HO.out.kept (Fr.refl (fun _ => False) _).drew (fun h => h))).mono ?_; rintro e w4 ⟨f4, rfl, o4, d4, k4, r4, t4⟩; have hf4 : Fr (fun _ => False) w w4 := HF.out.drew.trans t4 (fun i a b => HGE.out i a b); have HF4 : Hid (Fr (fun _ => False) w w4) := hf4))
            obtain ⟨k0, k1⟩ := HRD.out w4 HF4.out
            have HO4 : Hid (FoAt w4 g N f4) := o4
            have HD4 : Hid (Dn f4) := d4
            have HK4 : Hid (Kin N (fun i j => PC (Bk W H P) (rep (rowsF W P) H i) (rep (rowsF W P) H j)) f4) := k4
            have HR4 : Hid (Rowed W P (Y + 1) f4) := r4
            clear o4 d4 k4 r4 t4 hf4
            go_wp2_with fail
            go_roundg (H - (Y + 1))
            case measure => omega
            case rel => exact ⟨Y, f4, by omega, rfl, rfl, HO4.out, HD4.out, HK4.out, HR4.out, HF4.out⟩
          · have dy : decide (y + 1 < H) = false := decide_eq_false hyH
            have HGG : Hid (Grown W H P f) := HG.out f HD.out HK.out (by have := HRW.out; rwa [show y + 1 = H by omega] at this)
            go_wp2_with fail
            go_ret
            exact ⟨g, f, rfl, by have := HLK.out; omega, HO.out, HGG.out, HF.out⟩

end Go.Proofs.Ytgpciopoionmeaa
