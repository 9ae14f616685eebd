/- Segments' headers: the reader's flags. -/
import Derived.Test.YtamonbkhpbdojaaDoorSe
namespace Go.Proofs.YtamonbkhpbdojaaDoor
set_option maxRecDepth 100000
open Go.RowKit

theorem Tryd.info4 : (Tryd.prog.info? 4).map (fun i => (i.zero, i.size, i.bytes)) = some (some (.bool false), 1, 1) := by kernel_rfl

def flg (L : List Nat) (k : Nat) : Bool := decide ((num (nextBits L k 1) : Int) = 1)
def flgL (L : List Nat) (k : Nat) : List Bool := (List.range k).map (flg L)
theorem flgL_succ (L : List Nat) (k : Nat) : flgL L (k + 1) = flgL L k ++ [flg L k] := by simp [flgL, List.range_succ]
theorem length_flgL (L : List Nat) (k : Nat) : (flgL L k).length = k := by simp [flgL]
def boolCells (l : List Bool) : List Value := l.map fun (x : Bool) => Value.bool x
theorem boolCells_snoc (l : List Bool) (x : Bool) : boolCells (l ++ [x]) = boolCells l ++ [Value.bool x] := by simp [boolCells]

set_option maxHeartbeats 2000000 in
theorem takeFlag_ok (br : Nat) (v : Value) (L : List Nat) (pos : Nat) (w : World) (h : RAt w br v L pos) (hf : pos + 1 ≤ 8 * L.length) :
    Calls Tryd.prog 70 #[.pointer (some ⟨br, 0, none⟩)] w fun e w' => e = .returned (.bool (flg L pos)) ∧ RAt w' br v L (pos + 1) ∧ Fr (fun k => k = br) w w' := by
  have HC : Hid (Calls Tryd.prog 69 #[.pointer (some ⟨br, 0, none⟩), .int .i64 1] w fun e w' => e = .returned (.tuple #[.int .u64 (num (nextBits L pos 1)), .int .i64 0]) ∧ RAt w' br v L (pos + 1) ∧ Fr (fun k => k = br) w w') := take_any br v L pos 1 w h (by omega) hf
  unfold flg
  generalize num (nextBits L pos 1) = x at *
  clear h hf
  by_cases hx : (x : Int) = 1
  all_goals
    go_enter Tryd.func70, Tryd.ntmps70
    go_wp2_with fail
    refine HC.out.mono ?_
    rintro e w1 ⟨rfl, hr1, hf1⟩
    have HR1 : Hid (RAt w1 br v L (pos + 1)) := hr1
    have HF1 : Hid (Fr (fun k => k = br) w w1) := hf1
    clear hr1 hf1 HC
    go_wp2_with fail
    refine (demandBits_ok _).mono ?_
    rintro e w4 ⟨rfl, rfl⟩
    go_wp2_with fail
    go_ret
  · exact ⟨by simp [hx], HR1.out, HF1.out⟩
  · exact ⟨by simp [hx], HR1.out, HF1.out⟩
set_option maxHeartbeats 2000000 in
theorem takeFlag_no (br : Nat) (v : Value) (L : List Nat) (pos : Nat) (w : World) (h : RAt w br v L pos) (hf : 8 * L.length < pos + 1) :
    Calls Tryd.prog 70 #[.pointer (some ⟨br, 0, none⟩)] w (Pan 163 w) := by
  have HC : Hid (Calls Tryd.prog 69 #[.pointer (some ⟨br, 0, none⟩), .int .i64 1] w fun e w' => e = .returned (.tuple #[.int .u64 0, .int .i64 14]) ∧ ∃ q, w' = w.drewN q) := take_end br v L pos 1 w h (by omega) hf
  clear h hf
  go_enter Tryd.func70, Tryd.ntmps70
  go_wp2_with fail
  refine HC.out.mono ?_
  rintro e w1 ⟨rfl, q, rfl⟩
  go_wp2_with fail
  refine (demandBits_end _).mono ?_
  rintro e w4 ⟨rfl, rfl⟩
  exact ⟨rfl, rfl, (Fr.refl _ _).drewN q⟩

/-- What 'flags' reads: the error, the flags, the last one, the place behind them. -/
def flgS (l : List Nat) (a c : Nat) : Nat × List Bool × Bool × Nat :=
  if l.length < a + (c / 8 + 1) then (163, [], false, 0)
  else if (rpad (pt l a (c / 8 + 1)) (c + 1)).2.1 = 0 then (0, flgL (pt l a (c / 8 + 1)) c, flg (pt l a (c / 8 + 1)) c, a + (c / 8 + 1)) else (161, [], false, 0)

def FlgP (w : World) (bs : Nat) (ao : Option Addr) (cap : Nat) (l : List Nat) (R : Nat × List Bool × Bool × Nat) (e : Ending) (w' : World) : Prop :=
  Fr (fun k => k = bs) w w' ∧ ((R.1 = 0 ∧ ∃ v, e = .returned (.tuple #[v, .bool R.2.2.1]) ∧ w'.ownsRow w.heap.size 4 1 v R.2.1.length (boolCells R.2.1) ∧ SR w' bs ao cap l R.2.2.2) ∨ (R.1 ≠ 0 ∧ PanW R.1 e))

set_option maxHeartbeats 4000000 in
theorem flags_any (bs : Nat) (ao : Option Addr) (cap : Nat) (l : List Nat) (a c : Nat) (w : World) (h : SR w bs ao cap l a) (hc : c ≤ 32768) :
    Calls Tryd.prog 59 #[.pointer (some ⟨bs, 0, none⟩), .int .i64 (c : Int)] w (FlgP w bs ao cap l (flgS l a c)) := by
  obtain ⟨i0, hi, hz0, hz1, hz2⟩ := info_parts Tryd.info4
  obtain ⟨z, hz⟩ : ∃ z, z = c / 8 + 1 := ⟨_, rfl⟩
  have hlen := length_pt l a z
  have hle := h.le
  have hlim := h.lim
  have hlt := h.lt
  have HB : Hid (bs < w.heap.size ∧ (l ≠ [] → ∀ b off, ao = some ⟨b, off, none⟩ → b < w.heap.size)) := ⟨h.lt, fun hl => h.blt hl⟩
  have HS : Hid (SR w bs ao cap l a) := h
  have HP : Hid (Calls Tryd.prog 64 #[.pointer (some ⟨bs, 0, none⟩), .int .i64 (z : Int)] w (PartP w (pt l a z))) := part_any bs ao cap l a z w h (by omega) (by omega)
  obtain ⟨R, hR⟩ : ∃ R, R = flgS l a c := ⟨_, rfl⟩
  have HR1 : Hid (8 * (pt l a z).length < c + 1 → R = (163, [], false, 0)) := fun hh => by rw [hR]; unfold flgS; rw [if_pos (by omega)]
  have HR2 : Hid (¬ 8 * (pt l a z).length < c + 1 → (rpad (pt l a z) (c + 1)).2.1 = 0 → R = (0, flgL (pt l a z) c, flg (pt l a z) c, a + z)) := fun hh h2 => by rw [hz] at h2; rw [hR]; unfold flgS; rw [if_neg (by omega), if_pos h2, hz]
  have HR3 : Hid (¬ 8 * (pt l a z).length < c + 1 → (rpad (pt l a z) (c + 1)).2.1 ≠ 0 → R = (161, [], false, 0)) := fun hh h2 => by rw [hz] at h2; rw [hR]; unfold flgS; rw [if_neg (by omega), if_neg h2]
  have HZ : Hid (¬ 8 * (pt l a z).length < c + 1 → a + z ≤ l.length) := fun hh => by omega
  rw [← hR]
  have e1 : Int.tdiv (c : Int) 8 = ((c / 8 : Nat) : Int) := by rw [Int.tdiv_eq_ediv_of_nonneg (by omega)]; omega
  have e2 : IntKind.i64.wrap ((c / 8 : Nat) : Int) = ((c / 8 : Nat) : Int) := by rw [IntKind.wrap_i64]; omega
  have e3 : ((c / 8 : Nat) : Int) + 1 = (z : Int) := by omega
  have e4 : IntKind.i64.wrap (z : Int) = (z : Int) := by rw [IntKind.wrap_i64]; omega
  have HZ2 : Hid (z ≤ 5000) := by show _ ≤ _; omega
  clear hlen hz hR h
  generalize pt l a z = L at *
  generalize c / 8 = c8 at *
  go_enter Tryd.func59, Tryd.ntmps59
  go_wp2_with fail
  refine HP.out.mono ?_
  rintro e w1 ⟨br, v, rfl, hr1, hf1, hb1, hv1⟩
  have HRA : Hid (RAt w1 br v L 0) := hr1
  have HF1 : Hid (Fr (fun _ => False) w w1) := hf1
  have HV1 : Hid (∀ k, v.ownBlock = some k → w.heap.size ≤ k ∧ k < w1.heap.size) := fun k e => ⟨hv1 k e, hr1.rowlt k e⟩
  have HL1 : Hid (w.heap.size ≤ br ∧ br < w1.heap.size) := ⟨hb1, hr1.lt⟩
  clear hr1 hf1 hv1 HP hb1 hlt
  go_wp2_with fail
  go_loopw [4, 15] (fun s u wr => ∃ (k : Nat) (v1 : Value), k ≤ c ∧ v1 = s ∧ u = .int .i64 (k : Int) ∧ wr.ownsRow w1.heap.size 4 1 v1 k (boolCells (flgL L k)) ∧ Hid (RAt wr br v L k) ∧ Hid (Fr (fun k => k = br) w1 wr)) (fun _ u _ => (c - (intOf u).toNat))
  case atStart => exact ⟨0, _, by omega, rfl, rfl, ⟨rfl, Or.inl ⟨rfl, rfl⟩⟩, HRA.out, Fr.refl _ _⟩
  case round =>
    obtain ⟨k, v1, hk, rfl, rfl, hown, HRK, HFK⟩ := hrel
    have HFW : Hid (Fr (fun k => k = bs) w wr) := HF1.out.mono (T := fun k => k = bs) (fun _ _ h => h.elim) |>.trans HFK.out (fun i hi e => by have := HL1.out.1; omega)
    by_cases hlt : k < c
    · have hd : decide ((k : Int) < (c : Int)) = true := decide_eq_true (by omega)
      by_cases hin : k + 1 ≤ 8 * L.length
      · have HC : Hid (Calls Tryd.prog 70 #[.pointer (some ⟨br, 0, none⟩)] wr fun e w' => e = .returned (.bool (flg L k)) ∧ RAt w' br v L (k + 1) ∧ Fr (fun k => k = br) wr w') := takeFlag_ok br v L k wr HRK.out hin
        have HOW : Hid (∀ w', Fr (fun k => k = br) wr w' → w'.ownsRow w1.heap.size 4 1 v1 k (boolCells (flgL L k))) := fun w' f => row_kept hown f (fun kk e he => by have := (hown.lt kk e).1; have := HL1.out.2; omega)
        have HVB : Hid (∀ kk, v1.ownBlock = some kk → w1.heap.size ≤ kk) := fun kk e => (hown.lt kk e).1
        have HFS : Hid (boolCells (flgL L (k + 1)) = boolCells (flgL L k) ++ [Value.bool (flg L k)]) := by show _ = _; rw [flgL_succ, boolCells_snoc]
        have hwk : IntKind.i64.wrap ((k : Int) + 1) = (k : Int) + 1 := by rw [IntKind.wrap_i64]; omega
        clear hown HRK hin
        generalize flg L k = fk at *
        go_wp2_with fail
        refine HC.out.mono ?_
        rintro e w2 ⟨rfl, hr2, hf2⟩
        have hown2 := HOW.out _ hf2
        have HR2' : Hid (RAt w2 br v L (k + 1)) := hr2
        have HF2 : Hid (Fr (fun k => k = br) w1 w2) := HFK.out.trans hf2 (fun _ _ h => h)
        clear hr2 hf2 HC HOW
        go_wp2_with (first | (at_builtin; refine wpList_append_row _ rfl _ _ 24 rfl 4 i0 (.bool false) 1 1 Tryd.underlying24 hi hz0 hz1 hz2 rfl (by decide) _ _ _ rfl ((ownsRow_base hown2 (fun _ _ => Nat.zero_le _)).alloc _) ⟨w2.heap.size, 0, none⟩ 1 1 [.bool fk] rfl rfl (cell_one_new _ _ _) ?_ ?_ ?_ (by decide) ?_))
        · intro u hu; simp at hu; subst hu; rfl
        · unfold maxLen; omega
        · omega
        · intro g' cap' w3 hown' hgrow hrow' hc' hm'
          have HF3 : Hid (Fr (fun k => k = br) w1 w3) := (HF2.out.alloc _).grown hgrow (fun kk e hlt => by have := HVB.out kk e; omega)
          have HFX : Hid (Fr (fun kk => v1.ownBlock = some kk) w2 w3) := ((Fr.refl _ _).alloc _).grown hgrow (fun kk e _ => e)
          have HO3 : Hid (w3.ownsRow w1.heap.size 4 1 (.slice (some ⟨g', 0, none⟩) (k + 1) cap') (k + 1) (boolCells (flgL L (k + 1)))) := by
            show World.ownsRow _ _ _ _ _ _ _
            rw [HFS.out]
            refine ownsRow_base hown' (fun kk e => ?_)
            simp [Value.ownBlock] at e
            subst e
            rcases hrow' with e | e
            · exact HVB.out _ e
            · have := HF2.out.size
              have h2 : w2.heap.size ≤ g' := by first | omega | (simp at e; omega)
              omega
          have HR3' : Hid (RAt w3 br v L (k + 1)) := HR2'.out.kept HFX.out (fun e => by have := HVB.out _ e; have := HL1.out.2; omega) (fun kk e e2 => by have := HVB.out _ e2; have := (HV1.out kk e).2; omega)
          clear hown' hgrow hrow' hc' hm' hown2
          go_wp2_with fail
          go_roundw
          case rel => exact ⟨k + 1, _, by omega, rfl, congrArg (Value.int .i64) (by omega), HO3.out, HR3', HF3⟩
          case measure => simp [intOf]; omega
      · have HC : Hid (Calls Tryd.prog 70 #[.pointer (some ⟨br, 0, none⟩)] wr (Pan 163 wr)) := takeFlag_no br v L k wr HRK.out (by omega)
        have HE : Hid (R = (163, [], false, 0)) := HR1.out (by omega)
        clear hown HRK
        go_wp2_with fail
        refine HC.out.mono ?_
        rintro e w2 ⟨rfl, hf2⟩
        exact ⟨rfl, HFW.out.trans hf2 (fun _ _ h => h.elim), Or.inr ⟨by rw [HE.out]; decide, by rw [HE.out]; rfl⟩⟩
    · have hkc : k = c := by omega
      subst hkc
      have hd : decide ((k : Int) < (k : Int)) = false := decide_eq_false (by omega)
      by_cases hin : k + 1 ≤ 8 * L.length
      · have HC : Hid (Calls Tryd.prog 70 #[.pointer (some ⟨br, 0, none⟩)] wr fun e w' => e = .returned (.bool (flg L k)) ∧ RAt w' br v L (k + 1) ∧ Fr (fun k => k = br) wr w') := takeFlag_ok br v L k wr HRK.out hin
        have HOW : Hid (∀ w', Fr (fun k => k = br) wr w' → w'.ownsRow w1.heap.size 4 1 v1 k (boolCells (flgL L k))) := fun w' f => row_kept hown f (fun kk e he => by have := (hown.lt kk e).1; have := HL1.out.2; omega)
        have HIN : Hid (¬ 8 * L.length < k + 1) := by show ¬ _; omega
        obtain ⟨n, er, p2, hrp⟩ : ∃ n er p2, rpad L (k + 1) = (n, er, p2) := ⟨_, _, _, rfl⟩
        have HRP : Hid (rpad L (k + 1) = (n, er, p2)) := hrp
        clear hown HRK hin hrp
        generalize hfk : flg L k = fk at HC
        have HFK2 : Hid (flg L k = fk) := hfk
        clear hfk
        go_wp2_with fail
        refine HC.out.mono ?_
        rintro e w2 ⟨rfl, hr2, hf2⟩
        have HOW2 : Hid (∀ w', Fr (fun k => k = br) w2 w' → w'.ownsRow w1.heap.size 4 1 v1 k (boolCells (flgL L k))) := fun w' f => HOW.out w' (hf2.trans f (fun _ _ h => h))
        have HR2' : Hid (RAt w2 br v L (k + 1)) := hr2
        have HFW2 : Hid (Fr (fun k => k = br) wr w2) := hf2
        clear hr2 hf2 HC HOW
        go_wp2_with fail
        refine (ralign_any br v L (k + 1) n er p2 _ HR2'.out HRP).mono ?_
        rintro e w3 ⟨rfl, hr3, hf3⟩
        have HO3 : Hid (w3.ownsRow w1.heap.size 4 1 v1 k (boolCells (flgL L k))) := HOW2.out _ hf3
        have HF3 : Hid (Fr (fun _ => False) w w3) := by
          refine (HF1.out.trans ((HFK.out.trans HFW2.out (fun _ _ h => h)).trans hf3 (fun _ _ h => h)) (fun i hi e => ?_))
          have := HL1.out.1; omega
        have HS3 : Hid (SR w3 bs ao cap l a) := HS.out.keptF HF3.out
        clear hr3 hf3 HOW2
        by_cases her : er = 0
        · subst her
          have HE : Hid (R = (0, flgL L k, fk, a + z)) := by show _ = _; rw [HR2.out HIN.out (by rw [HRP.out]), HFK2.out]
          have HAZ : Hid (a + z ≤ l.length) := HZ.out HIN.out
          go_wp2_with fail
          refine (demandBits_ok _).mono ?_
          rintro e w4 ⟨rfl, rfl⟩
          obtain ⟨s0, s1, sf⟩ := cell_of_two HS3.out.blk
          have e6 : IntKind.i64.wrap ((a : Int) + (z : Int)) = (a : Int) + (z : Int) := by have := HZ2.out; rw [IntKind.wrap_i64]; omega
          go_wp2_with fail
          go_ret2
          refine ⟨(HF3.out.mono (T := fun k => k = bs) (fun _ _ h => h.elim)).setCell (fun _ => rfl) _, Or.inl ⟨by rw [HE.out], v1, by rw [HE.out]; rfl, ?_, ?_⟩⟩
          · rw [HE.out]
            show World.ownsRow _ _ _ _ _ _ _
            rw [length_flgL]
            refine ownsRow_base (row_kept HO3.out (Fr.one _ bs 1 _) (fun kk e he => ?_)) (fun kk e => ?_)
            · have := (HO3.out.lt kk e).1; have := HB.out.1; have := HF1.out.size; omega
            · have := (HO3.out.lt kk e).1; have := HF1.out.size; omega
          · rw [HE.out]
            exact HS3.out.moved (by simp) HAZ.out
        · have her2 : er = 15 := by
            have := HRP.out
            unfold rpad at this
            simp only [Prod.mk.injEq] at this
            have h2 := this.2.1
            split at h2 <;> omega
          subst her2
          have HE : Hid (R = (161, [], false, 0)) := HR3.out HIN.out (by rw [HRP.out]; exact (by decide : (15 : Nat) ≠ 0))
          go_wp2_with fail
          refine (demandBits_15 _).mono ?_
          rintro e w4 ⟨rfl, rfl⟩
          exact ⟨rfl, HF3.out.mono (fun _ _ h => h.elim), Or.inr ⟨by rw [HE.out]; decide, by rw [HE.out]; rfl⟩⟩
      · have HC : Hid (Calls Tryd.prog 70 #[.pointer (some ⟨br, 0, none⟩)] wr (Pan 163 wr)) := takeFlag_no br v L k wr HRK.out (by omega)
        have HE : Hid (R = (163, [], false, 0)) := HR1.out (by omega)
        clear hown HRK
        go_wp2_with fail
        refine HC.out.mono ?_
        rintro e w2 ⟨rfl, hf2⟩
        exact ⟨rfl, HFW.out.trans hf2 (fun _ _ h => h.elim), Or.inr ⟨by rw [HE.out]; decide, by rw [HE.out]; rfl⟩⟩
end Go.Proofs.YtamonbkhpbdojaaDoor
