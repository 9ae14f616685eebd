/- Segments' headers: the reader's 'rising'. -/
import Derived.Test.YtamonbkhpbdojaaDoorSe
namespace Go.Proofs.YtamonbkhpbdojaaDoor
set_option maxRecDepth 100000
open Go.RowKit

def RisP (w : World) (bs : Nat) (ao : Option Addr) (cap : Nat) (l : List Nat) (R : Nat × List Nat × Nat) (e : Ending) (w' : World) : Prop :=
  Fr (fun k => k = bs) w w' ∧ ((R.1 = 0 ∧ ∃ v, e = .returned v ∧ w'.ownsRow w.heap.size 3 1 v R.2.1.length (intCells R.2.1) ∧ SR w' bs ao cap l R.2.2) ∨ (R.1 ≠ 0 ∧ PanW R.1 e))

set_option maxHeartbeats 4000000 in
theorem rising_any (bs : Nat) (ao : Option Addr) (cap : Nat) (l : List Nat) (a c last : Nat) (y : Int) (w : World) (h : SR w bs ao cap l a) (hc : c ≤ 32768) (hlast : last ≤ 32768) (hy : 0 < c → y = (last : Int)) :
    Calls Tryd.prog 58 #[.pointer (some ⟨bs, 0, none⟩), .int .i64 (c : Int), .int .i64 y] w (RisP w bs ao cap l (risS l last c a 0)) := by
  obtain ⟨i0, hi, hz0, hz1, hz2⟩ := info_parts Tryd.info3
  have HB : Hid (bs < w.heap.size ∧ (l ≠ [] → ∀ b off, ao = some ⟨b, off, none⟩ → b < w.heap.size)) := ⟨h.lt, fun hl => h.blt hl⟩
  have HS : Hid (SR w bs ao cap l a) := h
  obtain ⟨R, hR⟩ : ∃ R, R = risS l last c a 0 := ⟨_, rfl⟩
  have HR : Hid (R = risS l last c a 0) := hR
  rw [← hR]
  clear h hR
  go_enter Tryd.func58, Tryd.ntmps58
  go_wp2_with fail
  go_loopw [7, 8, 9, 11] (fun s t _ u wr => ∃ (k ak lk : Nat) (L : List Nat) (v1 : Value), k ≤ c ∧ lk ≤ 32769 ∧ v1 = s ∧ t = .int .i64 (lk : Int) ∧ u = .int .i64 (k : Int) ∧ Hid (R = appR L (risS l last (c - k) ak lk)) ∧ Hid (L.length = k) ∧ wr.ownsRow w.heap.size 3 1 v1 k (intCells L) ∧ Hid (SR wr bs ao cap l ak) ∧ Hid (Fr (fun k => k = bs) w wr)) (fun _ _ _ u _ => (c - (intOf u).toNat))
  case atStart => exact ⟨0, a, 0, [], _, by omega, by omega, rfl, rfl, rfl, by show _ = _; rw [HR.out]; simp [appR], rfl, ⟨rfl, Or.inl ⟨rfl, rfl⟩⟩, HS.out, Fr.refl _ _⟩
  case round =>
    obtain ⟨k, ak, lk, L, v1, hk, hlk, rfl, rfl, rfl, HQ, HL, hown, HSR, HFR⟩ := hrel
    by_cases hlt : k < c
    · have hy2 := hy (by omega)
      subst hy2
      have hd : decide ((k : Int) < (c : Int)) = true := decide_eq_true (by omega)
      by_cases hn : (numS l ak lk last).1 = 0
      · obtain ⟨n, a2, hnum⟩ : ∃ n a2, numS l ak lk last = (0, n, a2) := ⟨_, _, Prod.ext hn rfl⟩
        obtain ⟨_, _, hn1, hn2⟩ := numS_ok hnum
        have HC : Hid (Calls Tryd.prog 56 #[.pointer (some ⟨bs, 0, none⟩), .int .i64 (lk : Int), .int .i64 (last : Int)] wr fun e w' => e = .returned (.int .i64 (n : Int)) ∧ SR w' bs ao cap l a2 ∧ Fr (fun k => k = bs) wr w') := number_ok bs ao cap l ak lk last n a2 _ HSR.out hnum (by omega) (by omega)
        have HQ2 : Hid (R = appR (L ++ [n]) (risS l last (c - (k + 1)) a2 (n + 1))) := by
          show _ = _
          rw [HQ.out, show c - k = c - (k + 1) + 1 by omega, risS_more hnum, appR_app]
        have hnl : n ≤ 32768 := by omega
        have HOW : Hid (∀ w', Fr (fun k => k = bs) wr w' → w'.ownsRow w.heap.size 3 1 v1 k (intCells L)) := fun w' f => row_kept hown f (fun kk e he => by have := (hown.lt kk e).1; have := HB.out.1; omega)
        have HVB : Hid (∀ kk, v1.ownBlock = some kk → w.heap.size ≤ kk) := fun kk e => (hown.lt kk e).1
        have hwn : IntKind.i64.wrap ((n : Int) + 1) = (n : Int) + 1 := by rw [IntKind.wrap_i64]; omega
        have hwk : IntKind.i64.wrap ((k : Int) + 1) = (k : Int) + 1 := by rw [IntKind.wrap_i64]; omega
        clear HSR hnum hn hn1 hn2 HQ hown hy
        go_wp2_with fail
        refine HC.out.mono ?_
        rintro e w1 ⟨rfl, hs1, hf1⟩
        have hown1 := HOW.out _ hf1
        have HS1 : Hid (SR w1 bs ao cap l a2) := hs1
        have HF1 : Hid (Fr (fun k => k = bs) w w1) := HFR.out.trans hf1 (fun _ _ h => h)
        clear hs1 hf1 HC HOW
        go_wp2_with (first | (at_builtin; refine wpList_append_row _ rfl _ _ 23 rfl 3 i0 (.int .i64 0) 1 8 Tryd.underlying23 hi hz0 hz1 hz2 rfl (by decide) _ _ _ rfl ((ownsRow_base hown1 (fun _ _ => Nat.zero_le _)).alloc _) ⟨w1.heap.size, 0, none⟩ 1 1 [.int .i64 (n : Int)] rfl rfl (cell_one_new _ _ _) ?_ ?_ ?_ (by decide) ?_))
        · intro u hu; simp at hu; subst hu; rfl
        · unfold maxLen; omega
        · omega
        · intro g' cap' w2 hown' hgrow hrow' hc' hm'
          have HF2 : Hid (Fr (fun k => k = bs) w w2) := (HF1.out.alloc _).grown hgrow (fun kk e hlt => by have := HVB.out kk e; omega)
          have HFX : Hid (Fr (fun kk => v1.ownBlock = some kk) w1 w2) := ((Fr.refl _ _).alloc _).grown hgrow (fun kk e _ => e)
          have HO2 : Hid (w2.ownsRow w.heap.size 3 1 (.slice (some ⟨g', 0, none⟩) (k + 1) cap') (k + 1) (intCells (L ++ [n]))) := by
            show World.ownsRow _ _ _ _ _ _ _
            rw [intCells_snoc]
            refine ownsRow_base hown' (fun kk e => ?_)
            simp [Value.ownBlock] at e
            subst e
            rcases hrow' with e | e
            · exact HVB.out _ e
            · have := HF1.out.size; have h2 : w1.heap.size ≤ g' := by first | omega | (simp at e; omega)
              omega
          have HS2 : Hid (SR w2 bs ao cap l a2) := HS1.out.kept HFX.out (fun e => by have := HVB.out _ e; have := HB.out.1; omega) (fun hl b off e e2 => by have := HVB.out _ e2; have := HB.out.2 hl b off e; omega)
          clear hown' hgrow hrow' hc' hm' hown1
          go_wp2_with fail
          go_roundw
          case rel => exact ⟨k + 1, a2, n + 1, L ++ [n], _, by omega, by omega, rfl, congrArg (Value.int .i64) (by omega), congrArg (Value.int .i64) (by omega), HQ2, by show _ = _; rw [List.length_append, HL.out]; rfl, HO2.out, HS2, HF2⟩
          case measure => simp [intOf]; omega
      · have HC : Hid (Calls Tryd.prog 56 #[.pointer (some ⟨bs, 0, none⟩), .int .i64 (lk : Int), .int .i64 (last : Int)] wr (Pan (numS l ak lk last).1 wr)) := number_no bs ao cap l ak lk last _ _ HSR.out rfl hn (by omega) (by omega)
        have HE : Hid (R.1 = (numS l ak lk last).1) := by
          show _ = _
          rw [HQ.out, show c - k = c - (k + 1) + 1 by omega, risS_no hn]; rfl
        have HN : Hid ((numS l ak lk last).1 ≠ 0) := hn
        generalize (numS l ak lk last).1 = er at *
        clear HSR HQ hown hy hn
        go_wp2_with fail
        refine HC.out.mono ?_
        rintro e w1 ⟨rfl, hf1⟩
        exact ⟨rfl, HFR.out.trans hf1 (fun _ _ h => h.elim), Or.inr ⟨by rw [HE.out]; exact HN.out, by rw [HE.out]; rfl⟩⟩
    · have hkc : k = c := by omega
      subst hkc
      have HE : Hid (R = (0, L, ak)) := by
        show _ = _
        rw [HQ.out, Nat.sub_self]; simp [risS, appR]
      clear hy HQ
      go_wp2_with fail
      go_ret
      refine ⟨HFR.out, Or.inl ⟨by rw [HE.out], v1, rfl, ?_, by rw [HE.out]; exact HSR.out⟩⟩
      rw [HE.out]
      show World.ownsRow _ _ _ _ _ _ _
      rw [HL.out]; exact hown
end Go.Proofs.YtamonbkhpbdojaaDoor
