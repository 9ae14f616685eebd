/- 'MatchAdded': bitmaps more, behind the others, change no class of theirs. -/
import Derived.Test.YtodgdbbhllejkaaEb
namespace Go.Proofs.Ytodgdbbhllejkaa
open Go.RowKit

set_option maxRecDepth 100000 in
set_option maxHeartbeats 8000000 in
theorem addedLaw_any (ao : Option Addr) (n cap T : Nat) (A : Nat → Bp) (w : World) (hB : BpsAt w ao n A) (hcap : n ≤ cap) (_hnil : ao = none → n = 0) (_hT : T < 18446744073709551616) :
    Calls Try.prog 8 #[.agg #[.slice ao n cap, .int .u64 (T : Int)]] w fun e w' => e = .returned (.bool true) ∧ Fr (fun _ => False) w w' := by
  have HBP : Hid (∀ w', Fr (fun _ => False) w w' → BpsAt w' ao n A) := fun w' f => hB.kept f
  have hn := hB.len
  clear hB
  have HBX : Hid (∀ w', Fr (fun _ => False) (w.alloc (.cells #[.slice ao n cap, .int .u64 (T : Int)] 25)) w' → w'.cell? ⟨w.heap.size, 0, none⟩ = some (.slice ao n cap) ∧ w'.cell? ⟨w.heap.size, 1, none⟩ = some (.int .u64 (T : Int))) := fun w' f => by
    obtain ⟨a, b, _⟩ := two_cells (blkOld f (heap_alloc_new w (.cells #[.slice ao n cap, .int .u64 (T : Int)] 25)))
    exact ⟨a, b⟩
  have HA : Hid (Fr (fun _ => False) w (w.alloc (.cells #[.slice ao n cap, .int .u64 (T : Int)] 25))) := (Fr.refl _ _).alloc _
  obtain ⟨b0, b1⟩ := HBX.out _ (Fr.refl _ _)
  have hfb : ∀ w, (callFunc 11 #[.int .u64 (T : Int)]).run Try.prog w = .ok (.value (.float .f64 T)) w := fun w => frombits_run (T : Int) w
  have hge : (FloatKind.f64.format.order T 0 == some Ordering.gt || FloatKind.f64.format.order T 0 == some Ordering.eq) = tolB T := o_ge T 0
  go_enter Try.func8, Try.ntmps8
  go_wp2_with fail
  generalize w.alloc (.cells #[.slice ao n cap, .int .u64 (T : Int)] 25) = w0 at *
  refine (mays_any ao n cap A _ (HBP.out _ HA.out)).mono ?_
  rintro e w1 ⟨bb, rfl, hbb, hf1⟩
  have HF1 : Hid (Fr (fun _ => False) w0 w1) := hf1
  have HW1 : Hid (Fr (fun _ => False) w w1) := HA.out.trans hf1 (fun _ _ h => h)
  clear hf1 b0 b1
  cases bb
  · go_wp2_with fail
    refine (wakes_any _).mono ?_
    rintro e w2 ⟨rfl, hf2⟩
    have HF2 : Hid (Fr (fun _ => False) w w2) := HW1.out.trans hf2 (fun _ _ h => h)
    clear hf2
    go_wp2_with fail
    go_ret
    exact ⟨rfl, HF2.out⟩
  · obtain ⟨hn40, hall⟩ := hbb rfl
    cases htol : tolB T
    · rw [htol] at hge
      clear hbb htol
      go_wp2_with fail
      refine (wakes_any _).mono ?_
      rintro e w2 ⟨rfl, hf2⟩
      have HF2 : Hid (Fr (fun _ => False) w w2) := HW1.out.trans hf2 (fun _ _ h => h)
      clear hf2
      go_wp2_with fail
      go_ret
      exact ⟨rfl, HF2.out⟩
    · rw [htol] at hge
      have HG : Hid (∀ j, j < n → Good (A j)) := fun j hj => ((HBP.out w (Fr.refl _ _)).ok j hj).good (of_decide_eq_true hall j hj)
      have HGL : Hid (∀ m c, m ≤ n → c < (clR (nrA T A) m).length → (A ((clR (nrA T A) m).getD c 0)).l.length ≤ 9223372036854775807) := fun m c hm hc => by
        have hlt := clR_lt (nrA T A) m ((clR (nrA T A) m).getD c 0) (by rw [List.getD_eq_getElem?_getD, List.getElem?_eq_getElem hc]; exact List.getElem_mem hc)
        obtain ⟨W, H, _, _, g1, g2, g3, e, _⟩ := (HG.out _ (show (clR (nrA T A) m).getD c 0 < n by omega)).vb
        have := size_facts g1 g2 g3
        rw [e, length_render]; omega
      have HCL : Hid (∀ W m, m ≤ n → Fr (fun _ => False) w W → Calls Try.prog 14 #[.slice ao m cap, .float .f64 T] W fun e w' => ∃ cv rv U, e = .returned (.tuple #[.agg #[cv, rv], .int .i64 0]) ∧ Mat w' W.heap.size cv rv A (clC (nrA T A) m) (clR (nrA T A) m) U ∧ Fr (fun _ => False) W w') := fun W m hm f => classes_ok ao m cap T A W ((HBP.out W f).front hm) (by omega) htol (decide_eq_true (fun j hj => of_decide_eq_true hall j (by omega))) (by have := clR_le (nrA T A) m; omega)
      clear hbb htol hall
      obtain ⟨l0, -⟩ := HBX.out _ HF1.out
      go_wp2_with fail
      refine (HCL.out _ n (Nat.le_refl _) HW1.out).mono ?_
      rintro e w2 ⟨cv, rv, U, rfl, hmt, hf2⟩
      have hlc := length_clC (nrA T A) n
      obtain ⟨ac, cc, hcv⟩ := own_slice hmt.cls
      rw [hlc] at hcv
      obtain ⟨ar, cr, hrv⟩ := own_slice hmt.reps
      subst hcv hrv
      have HF2 : Hid (Fr (fun _ => False) w0 w2) := HF1.out.trans hf2 (fun _ _ h => h)
      have HMA : Hid (Mat w2 0 (.slice ac n cc) (.slice ar (clR (nrA T A) n).length cr) A (clC (nrA T A) n) (clR (nrA T A) n) U) := hmt.base (Nat.zero_le _)
      have hcc : n ≤ cc := by
        rcases hmt.cls.2 with ⟨e, h⟩ | ⟨g, c', cur, e, _, _, h, _⟩
        · simp only [Value.slice.injEq] at e; omega
        · simp only [Value.slice.injEq] at e; omega
      have hcr : (clR (nrA T A) n).length ≤ cr := by
        rcases hmt.reps.2 with ⟨e, h⟩ | ⟨g, c', cur, e, _, _, h, _⟩
        · simp only [Value.slice.injEq] at e; omega
        · simp only [Value.slice.injEq] at e; omega
      clear hmt hf2 l0
      have hnn : ((n : Int) != (n : Int)) = false := by simp
      have l0 := (HBX.out _ (HF2.out.alloc (.cells #[.slice ac n cc, .slice ar (clR (nrA T A) n).length cr] 33))).1
      have HF3 : Hid (Fr (fun _ => False) w0 (w2.alloc (.cells #[.slice ac n cc, .slice ar (clR (nrA T A) n).length cr] 33))) := HF2.out.alloc _
      have HMB : Hid (Mat (w2.alloc (.cells #[.slice ac n cc, .slice ar (clR (nrA T A) n).length cr] 33)) 0 (.slice ac n cc) (.slice ar (clR (nrA T A) n).length cr) A (clC (nrA T A) n) (clR (nrA T A) n) U) := HMA.out.kept ((Fr.refl (fun _ => False) w2).alloc _) (fun _ _ h => h)
      have HAL : Hid (∀ w', Fr (fun _ => False) (w2.alloc (.cells #[.slice ac n cc, .slice ar (clR (nrA T A) n).length cr] 33)) w' → w'.cell? ⟨w2.heap.size, 0, none⟩ = some (.slice ac n cc) ∧ w'.cell? ⟨w2.heap.size, 1, none⟩ = some (.slice ar (clR (nrA T A) n).length cr)) := fun w' f => by
        obtain ⟨a, b, _⟩ := two_cells (blkOld f (heap_alloc_new w2 (.cells #[.slice ac n cc, .slice ar (clR (nrA T A) n).length cr] 33)))
        exact ⟨a, b⟩
      obtain ⟨p0, p1⟩ := HAL.out _ (Fr.refl _ _)
      have hrn := clR_le (nrA T A) n
      generalize hnR : (clR (nrA T A) n).length = nR at *
      have HNR : Hid ((clR (nrA T A) n).length = nR) := hnR
      clear hnR hlc
      go_wp2_with fail
      generalize w2.alloc (.cells #[.slice ac n cc, .slice ar nR cr] 33) = w3 at *
      generalize w2.heap.size = o at *
      clear l0 p0 p1
      go_loopg [6] (n + 1) (fun q mm wr => ∃ (m : Nat), (m ≤ n → n < m + q) ∧ m ≤ 1000 ∧ mm = .int .i64 (m : Int) ∧ Fr (fun _ => False) w3 wr)
      case atStart => exact ⟨0, by omega, by omega, rfl, Fr.refl _ _⟩
      case round =>
        obtain ⟨m, hmq, hm1, rfl, hfr⟩ := hrel
        have HFr : Hid (Fr (fun _ => False) w3 wr) := hfr
        have HF0 : Hid (Fr (fun _ => False) w0 wr) := HF3.out.trans hfr (fun _ _ h => h)
        have HFw : Hid (Fr (fun _ => False) w wr) := HA.out.trans HF0.out (fun _ _ h => h)
        clear hfr
        obtain ⟨l0, -⟩ := HBX.out _ HF0.out
        by_cases hmn : m ≤ n
        · have dm : decide (m ≤ n) = true := decide_eq_true hmn
          have hsl1 : (m : Int) ≤ (cap : Int) := by omega
          have hrm := clR_mono (nrA T A) hmn
          rw [HNR.out] at hrm
          go_wp2_with fail
          refine (HCL.out _ m hmn HFw.out).mono ?_
          rintro e w5 ⟨cv, rv, U', rfl, hmt, hf5⟩
          have hlm := length_clC (nrA T A) m
          obtain ⟨bc, dc, hcv⟩ := own_slice hmt.cls
          rw [hlm] at hcv
          obtain ⟨br, dr, hrv⟩ := own_slice hmt.reps
          subst hcv hrv
          have HEQ : Hid (∀ w', Fr (fun _ => False) w5 w' → SeenI w' (.slice bc m dc) (clC (nrA T A) m)) := fun w' f => (SeenI.of_row hmt.cls (by rw [hlm]; omega)).kept f
          have HF5 : Hid (Fr (fun _ => False) w3 w5) := HFr.out.trans hf5 (fun _ _ h => h)
          have HEA : Hid (∀ w', Fr (fun _ => False) w5 w' → SeenI w' (.slice ac m cc) (clC (nrA T A) m)) := fun w' f => by
            have h1 := (SeenI.of_row (HMB.out.kept (HF5.out.trans f (fun _ _ h => h)) (fun _ _ h => h)).cls (by rw [length_clC]; omega)).front hmn
            rwa [clC_take _ hmn] at h1
          have HRB : Hid (∀ w', Fr (fun _ => False) w5 w' → BmRow w' br (clR (nrA T A) m).length (repB A (clR (nrA T A) m) U')) := fun w' f => (hmt.row (fun c hc => HGL.out m c hmn hc)).kept f
          have HRA : Hid (∀ w', Fr (fun _ => False) w5 w' → BmRow w' ar (clR (nrA T A) m).length (repB A (clR (nrA T A) n) U)) := fun w' f => by
            have h1 := (HMB.out.kept (HF5.out.trans f (fun _ _ h => h)) (fun _ _ h => h)).row (fun c hc => HGL.out n c (Nat.le_refl _) hc)
            rw [HNR.out] at h1
            exact h1.front hrm
          have HEB : Hid (∀ w', Fr (fun _ => False) w5 w' → Calls Try.prog 18 #[.slice br (clR (nrA T A) m).length dr, .slice ar (clR (nrA T A) m).length cr] w' fun e w'' => e = .returned (.bool true) ∧ Fr (fun _ => False) w' w'') := fun w' f => eqBitmaps_same _ _ _ _ _ _ _ w' (by omega) (HRB.out w' f) (HRA.out w' f) (fun c hc => by unfold repB; rw [clR_front _ hmn hc]; exact ⟨rfl, rfl, rfl⟩)
          have HEI : Hid (∀ w', Fr (fun _ => False) w5 w' → Calls Try.prog 21 #[.slice bc m dc, .slice ac m cc] w' fun e w'' => e = .returned (.bool true) ∧ Fr (fun _ => False) w' w'') := fun w' f => by
            have h1 := eqInts_any _ _ _ _ w' (HEQ.out w' f) (HEA.out w' f)
            rwa [decide_eq_true rfl] at h1
          clear hmt hf5 hlm HEQ HEA HRB HRA
          generalize (clR (nrA T A) m).length = nM at *
          have HMM : Hid (∀ w', Fr (fun _ => False) (w5.alloc (.cells #[.slice bc m dc, .slice br nM dr] 33)) w' → (w'.cell? ⟨w5.heap.size, 0, none⟩ = some (.slice bc m dc) ∧ w'.cell? ⟨w5.heap.size, 1, none⟩ = some (.slice br nM dr)) ∧ w'.cell? ⟨o, 0, none⟩ = some (.slice ac n cc) ∧ w'.cell? ⟨o, 1, none⟩ = some (.slice ar nR cr)) := fun w' f => by
            obtain ⟨a, b, _⟩ := two_cells (blkOld f (heap_alloc_new w5 (.cells #[.slice bc m dc, .slice br nM dr] 33)))
            exact ⟨⟨a, b⟩, HAL.out w' ((HF5.out.alloc _).trans f (fun _ _ h => h))⟩
          have HF6 : Hid (Fr (fun _ => False) w5 (w5.alloc (.cells #[.slice bc m dc, .slice br nM dr] 33))) := (Fr.refl _ _).alloc _
          have HF7 : Hid (Fr (fun _ => False) w3 (w5.alloc (.cells #[.slice bc m dc, .slice br nM dr] 33))) := HF5.out.alloc _
          obtain ⟨⟨q0, q1⟩, q2, q3⟩ := HMM.out _ (Fr.refl _ _)
          have hsl2 : (m : Int) ≤ (cc : Int) := by omega
          have hsl3 : (nM : Int) ≤ (cr : Int) := by omega
          have dgt : decide (nR < nM) = false := decide_eq_false (by omega)
          have dgt2 : decide ((nR : Int) < (nM : Int)) = false := decide_eq_false (by omega)
          clear l0
          go_upto_region 11 with (fail)
          generalize w5.alloc (.cells #[.slice bc m dc, .slice br nM dr] 33) = w6 at *
          go_region_held3 (fun w' => (w'.cell? ⟨w5.heap.size, 0, none⟩ = some (.slice bc m dc) ∧ w'.cell? ⟨w5.heap.size, 1, none⟩ = some (.slice br nM dr)) ∧ w'.cell? ⟨o, 0, none⟩ = some (.slice ac n cc) ∧ w'.cell? ⟨o, 1, none⟩ = some (.slice ar nR cr)) (first | exact HMM.out _ (Fr.refl _ _).drew | exact HMM.out _ hf7'.out | exact HMM.out _ hf8'.out) (first | (go_at_call 21; refine (HEI.out _ (HF6.out.drew)).mono ?_; rintro e w7 ⟨rfl, hf7⟩; (have hf7' : Hid (Fr (fun _ => False) w6 w7) := (Fr.refl (fun _ => False) w6).drew.trans hf7 (fun _ _ h => h)); clear hf7) | (go_at_call 18; refine (HEB.out _ (HF6.out.trans hf7'.out (fun _ _ h => h))).mono ?_; rintro e w8 ⟨rfl, hf8⟩; (have hf8' : Hid (Fr (fun _ => False) w6 w8) := hf7'.out.trans hf8 (fun _ _ h => h)); clear hf8))
          have HF8 : Hid (Fr (fun _ => False) w3 w8) := HF7.out.trans hf8'.out (fun _ _ h => h)
          obtain ⟨l0, -⟩ := HBX.out _ (HF3.out.trans HF8.out (fun _ _ h => h))
          go_wp2_with fail
          go_roundg (n + 1 - (m + 1 + n / 6))
          case measure => have := hmq hmn; omega
          case rel => exact ⟨m + 1 + n / 6, by omega, by omega, by first | go_num | exact congrArg (Value.int .i64) (by omega), HF8.out⟩
        · have dm : decide (m ≤ n) = false := decide_eq_false hmn
          go_wp2_with fail
          refine (wakes_any _).mono ?_
          rintro e w4 ⟨rfl, hf4⟩
          have HF4 : Hid (Fr (fun _ => False) w w4) := HFw.out.trans hf4 (fun _ _ h => h)
          clear hf4
          go_wp2_with fail
          go_ret
          exact ⟨rfl, HF4.out⟩
end Go.Proofs.Ytodgdbbhllejkaa
