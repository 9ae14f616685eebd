/- 'MatchClasses': classes as the document's own answer tells them, twice. -/
import Derived.Test.YtodgdbbhllejkaaKRc2
import Derived.Test.YtodgdbbhllejkaaKCc
import Derived.Test.YtodgdbbhllejkaaKEm
import Derived.Test.YtodgdbbhllejkaaKLw
import Derived.Test.YtodgdbbhllejkaaKOi
import Derived.Test.YtodgdbbhllejkaaKOb
import Derived.Test.YtodgdbbhllejkaaKWk
namespace Go.Proofs.Ytodgdbbhllejkaa
open Go.RowKit

def clsE (T : Nat) (A : Nat → Bp) (n : Nat) : Int := if tolB T then (if allB A n then 0 else 110) else 102
def clsC (T : Nat) (A : Nat → Bp) (n : Nat) : List Nat := if tolB T && allB A n then clC (nrA T A) n else []
def clsR (T : Nat) (A : Nat → Bp) (n : Nat) : List Nat := if tolB T && allB A n then clR (nrA T A) n else []
theorem Mat.none (w : World) (base : Nat) (A : Nat → Bp) : Mat w base (.slice none 0 0) (.slice none 0 0) A [] [] (fun _ => .slice none 0 0) :=
  ⟨World.ownsRow_nil _ _ _ _, World.ownsRow_nil _ _ _ _, fun _ hc => absurd hc (Nat.not_lt_zero _), fun _ _ _ hc => absurd hc (Nat.not_lt_zero _)⟩
theorem Mat.toR {w : World} {base : Nat} {cv rv : Value} {A : Nat → Bp} {C R : List Nat} {U : Nat → Value} (h : Mat w base cv rv A C R U) : MatR w base cv rv A C R U := ⟨h.cls, h.reps, h.words⟩
theorem MatR.row {w : World} {base : Nat} {cv : Value} {ar : Option Addr} {nr cr : Nat} {A : Nat → Bp} {C R : List Nat} {U : Nat → Value} (h : MatR w base cv (.slice ar nr cr) A C R U) (hl : ∀ c, c < R.length → (A (R.getD c 0)).l.length ≤ 9223372036854775807) : BmRow w ar R.length (repB A R U) := by
  refine ⟨fun h0 => ?_, fun c hc => Seen.of_row (h.words c hc) (hl c hc)⟩
  obtain ⟨g, c', e, _⟩ := row_form h.reps h0
  cases e
  refine ⟨g, 0, rfl, fun j hj => ?_⟩
  obtain ⟨r1, r2, r3⟩ := repCells_at A U R R.length j hj
  rw [Nat.zero_add]
  exact ⟨(h.reps.cellAt (j * 3) (by omega)).trans r1, (h.reps.cellAt (j * 3 + 1) (by omega)).trans r2, (h.reps.cellAt (j * 3 + 2) (by omega)).trans r3⟩

theorem classes_any (ao : Option Addr) (n cap T : Nat) (A : Nat → Bp) (w : World) (hB : BpsAt w ao n A) (hn : n ≤ 40) :
    Calls Try.prog 14 #[.slice ao n cap, .float .f64 T] w fun e w' => ∃ cv rv U, e = .returned (.tuple #[.agg #[cv, rv], .int .i64 (clsE T A n)]) ∧ Mat w' w.heap.size cv rv A (clsC T A n) (clsR T A n) U ∧ Fr (fun _ => False) w w' := by
  unfold clsE clsC clsR
  cases ht : tolB T
  · refine (classes_badT ao n cap T w ht).mono ?_
    rintro e w' ⟨rfl, hf⟩
    exact ⟨_, _, _, rfl, Mat.none _ _ _, hf⟩
  · cases hf : allB A n
    · refine (classes_badF ao n cap T A w hB ht hf).mono ?_
      rintro e w' ⟨rfl, hf⟩
      exact ⟨_, _, _, rfl, Mat.none _ _ _, hf⟩
    · refine (classes_ok ao n cap T A w hB (by omega) ht hf (by have := clR_le (nrA T A) n; omega)).mono ?_
      rintro e w' ⟨cv, rv, U, rfl, hm, hf⟩
      exact ⟨_, _, U, rfl, hm, hf⟩
theorem rclasses_any (ao : Option Addr) (n cap T : Nat) (A : Nat → Bp) (w : World) (hB : BpsAt w ao n A) (hn : n ≤ 40) (hl : ∀ j, j < n → (A j).l.length ≤ 1048576) :
    Calls Try.prog 13 #[.slice ao n cap, .float .f64 T] w fun e w' => ∃ cv rv U, e = .returned (.tuple #[.agg #[cv, rv], .int .i64 (clsE T A n)]) ∧ MatR w' w.heap.size cv rv A (clsC T A n) (clsR T A n) U ∧ Fr (fun _ => False) w w' := by
  unfold clsE clsC clsR
  cases ht : tolB T
  · refine (rclasses_badT ao n cap T w ht).mono ?_
    rintro e w' ⟨rfl, hf⟩
    exact ⟨_, _, _, rfl, (Mat.none _ _ _).toR, hf⟩
  · cases hf : allB A n
    · refine (rclasses_badF ao n cap T A w hB ht hf).mono ?_
      rintro e w' ⟨rfl, hf⟩
      exact ⟨_, _, _, rfl, (Mat.none _ _ _).toR, hf⟩
    · refine (rclasses_ok ao n cap T A w hB hn ht hf hl).mono ?_
      rintro e w' ⟨cv, rv, U, rfl, hm, hf⟩
      exact ⟨_, _, U, rfl, hm, hf⟩
theorem nrA_cp (T : Nat) (A : Nat → Bp) (U : Nat → Value) : nrA T (cpB A U) = nrA T A := rfl
theorem allB_cp (A : Nat → Bp) (U : Nat → Value) (n : Nat) : allB (cpB A U) n = allB A n := rfl
theorem cls_cp (T : Nat) (A : Nat → Bp) (U : Nat → Value) (n : Nat) : clsE T (cpB A U) n = clsE T A n ∧ clsC T (cpB A U) n = clsC T A n ∧ clsR T (cpB A U) n = clsR T A n := ⟨rfl, rfl, rfl⟩
theorem clsR_lt {T n : Nat} {A : Nat → Bp} {c : Nat} (h : c < (clsR T A n).length) : (clsR T A n).getD c 0 < n ∧ tolB T = true ∧ allB A n = true := by
  unfold clsR at *
  cases hb : (tolB T && allB A n)
  · rw [hb] at h; exact absurd h (Nat.not_lt_zero _)
  · rw [hb] at h
    simp only [if_true] at h ⊢
    rw [Bool.and_eq_true] at hb
    exact ⟨clR_lt (nrA T A) n _ (by rw [List.getD_eq_getElem?_getD, List.getElem?_eq_getElem h]; exact List.getElem_mem h), hb⟩
theorem clsR_le (T n : Nat) (A : Nat → Bp) : (clsR T A n).length ≤ n := by
  unfold clsR
  split
  · exact clR_le _ _
  · exact Nat.zero_le _
theorem clsC_le (T n : Nat) (A : Nat → Bp) : (clsC T A n).length ≤ n := by
  unfold clsC
  split
  · rw [length_clC]; exact Nat.le_refl _
  · exact Nat.zero_le _

set_option maxRecDepth 100000 in
set_option maxHeartbeats 8000000 in
theorem classesLaw_any (ao : Option Addr) (n cap T : Nat) (A : Nat → Bp) (w : World) (hB : BpsAt w ao n A) (hl : ∀ j, j < n → (A j).l.length ≤ 17592186044416) :
    Calls Try.prog 3 #[.agg #[.slice ao n cap, .int .u64 (T : Int)]] w fun e w' => e = .returned (.bool true) ∧ Fr (fun _ => False) w w' := by
  have HBP : Hid (∀ w', Fr (fun _ => False) w w' → BpsAt w' ao n A) := fun w' f => hB.kept f
  have hn := hB.len
  have HLG : Hid (∀ w', Fr (fun _ => False) w w' → Calls Try.prog 9 #[.slice ao n cap] w' fun e w'' => e = .returned (.bool (lgtW A n)) ∧ w'' = w') := fun w' f => light_wide ao n cap A w' (hB.kept f) hl
  clear hB hl
  have HBX : Hid (∀ w', Fr (fun _ => False) (w.alloc (.cells #[.slice ao n cap, .int .u64 (T : Int)] 25)) w' → w'.cell? ⟨w.heap.size, 0, none⟩ = some (.slice ao n cap) ∧ w'.cell? ⟨w.heap.size, 1, none⟩ = some (.int .u64 (T : Int))) := fun w' f => by
    obtain ⟨a, b, _⟩ := two_cells (blkOld f (heap_alloc_new w (.cells #[.slice ao n cap, .int .u64 (T : Int)] 25)))
    exact ⟨a, b⟩
  have HA : Hid (Fr (fun _ => False) w (w.alloc (.cells #[.slice ao n cap, .int .u64 (T : Int)] 25))) := (Fr.refl _ _).alloc _
  obtain ⟨b0, b1⟩ := HBX.out _ (Fr.refl _ _)
  have hfb : ∀ w, (callFunc 11 #[.int .u64 (T : Int)]).run Try.prog w = .ok (.value (.float .f64 T)) w := fun w => frombits_run (T : Int) w
  go_enter Try.func3, Try.ntmps3
  go_wp2_with fail
  generalize w.alloc (.cells #[.slice ao n cap, .int .u64 (T : Int)] 25) = w0 at *
  refine (HLG.out _ HA.out).mono ?_
  rintro e w1 ⟨rfl, rfl⟩
  cases hlg : lgtW A n
  · clear hlg
    go_wp2_with fail
    refine (wakes_any _).mono ?_
    rintro e w2 ⟨rfl, hf2⟩
    have HF2 : Hid (Fr (fun _ => False) w w2) := HA.out.trans hf2 (fun _ _ h => h)
    clear hf2
    go_wp2_with fail
    go_ret
    exact ⟨rfl, HF2.out⟩
  · obtain ⟨hn40, hln⟩ := lgtW_small hlg
    have HLN : Hid (∀ j, j < n → (A j).l.length ≤ 1048576) := fun j hj => by have := hln j hj; omega
    clear hlg hln
    have HCP : Hid (∀ w', Fr (fun _ => False) w w' → Calls Try.prog 12 #[.slice ao n cap] w' fun e w'' => ∃ bo cb U, e = .returned (.slice bo n cb) ∧ BpsAt w'' bo n (cpB A U) ∧ Fr (fun _ => False) w' w'') := fun w' f => copyBitmaps_any ao n cap A w' (HBP.out w' f) (by omega) HLN.out
    have HRC : Hid (∀ w', Fr (fun _ => False) w w' → Calls Try.prog 13 #[.slice ao n cap, .float .f64 T] w' fun e w'' => ∃ cv rv U, e = .returned (.tuple #[.agg #[cv, rv], .int .i64 (clsE T A n)]) ∧ MatR w'' w'.heap.size cv rv A (clsC T A n) (clsR T A n) U ∧ Fr (fun _ => False) w' w'') := fun w' f => rclasses_any ao n cap T A w' (HBP.out w' f) hn40 HLN.out
    go_wp2_with fail
    refine (HCP.out _ HA.out).mono ?_
    rintro e w2 ⟨bo, cb, U0, rfl, hx2, hf2⟩
    have HX2 : Hid (∀ w', Fr (fun _ => False) w2 w' → BpsAt w' bo n (cpB A U0)) := fun w' f => hx2.kept f
    have HF2 : Hid (Fr (fun _ => False) w1 w2) := hf2
    clear hx2 hf2 b0 b1
    obtain ⟨b0, b1⟩ := HBX.out _ HF2.out
    go_wp2_with fail
    refine (HRC.out _ (HA.out.trans HF2.out (fun _ _ h => h))).mono ?_
    rintro e w3 ⟨cv, rv, U1, rfl, hm3, hf3⟩
    obtain ⟨ac, cc, hcv⟩ := own_slice hm3.cls
    obtain ⟨ar, cr, hrv⟩ := own_slice hm3.reps
    subst hcv hrv
    have hR40 := clsR_le T n A
    have hC40 := clsC_le T n A
    have HRL : Hid (∀ c, c < (clsR T A n).length → (A ((clsR T A n).getD c 0)).l.length ≤ 1048576 ∧ 0 < (A ((clsR T A n).getD c 0)).l.length) := fun c hc => by
      obtain ⟨h1, h2, h3⟩ := clsR_lt hc
      refine ⟨HLN.out _ h1, ?_⟩
      have hg : Good (A ((clsR T A n).getD c 0)) := ((HBP.out w (Fr.refl _ _)).ok _ h1).good (of_decide_eq_true h3 _ h1)
      obtain ⟨W, H, _, _, g1, g2, g3, e, _⟩ := hg.vb
      rw [e, length_render]
      exact Nat.mul_pos (by omega) (stride_pos (by omega))
    obtain ⟨C, HC⟩ : ∃ C, Hid (C = clsC T A n) := ⟨_, rfl⟩
    obtain ⟨R, HR⟩ : ∃ R, Hid (R = clsR T A n) := ⟨_, rfl⟩
    obtain ⟨er, HE⟩ : ∃ er, Hid (er = clsE T A n) := ⟨_, rfl⟩
    rw [← HR.out] at hm3 hR40 HRL ⊢
    rw [← HC.out] at hm3 hC40 ⊢
    rw [← HE.out]
    have HM3 : Hid (∀ w', Fr (fun _ => False) w3 w' → MatR w' 0 (.slice ac C.length cc) (.slice ar R.length cr) A C R U1) := fun w' f => by
      have := hm3.kept f
      exact ⟨ownsRow_base this.cls (fun _ _ => Nat.zero_le _), ownsRow_base this.reps (fun _ _ => Nat.zero_le _), fun c hc => ownsRow_base (this.words c hc) (fun _ _ => Nat.zero_le _)⟩
    have HF3 : Hid (Fr (fun _ => False) w2 w3) := hf3
    have HCL : Hid (∀ w', Fr (fun _ => False) w2 w' → Calls Try.prog 14 #[.slice bo n cb, .float .f64 T] w' fun e w'' => ∃ cv rv U, e = .returned (.tuple #[.agg #[cv, rv], .int .i64 er]) ∧ Mat w'' w'.heap.size cv rv (cpB A U0) C R U ∧ Fr (fun _ => False) w' w'') := fun w' f => by
      have := classes_any bo n cb T (cpB A U0) w' (HX2.out w' f) hn40
      rw [(cls_cp T A U0 n).1, (cls_cp T A U0 n).2.1, (cls_cp T A U0 n).2.2, ← HC.out, ← HR.out, ← HE.out] at this
      exact this
    clear hm3 hf3 HC HR HE HCP HRC
    generalize hnC : C.length = nC at *
    generalize hnR : R.length = nR at *
    have HNC : Hid (C.length = nC) := hnC
    have HNR : Hid (R.length = nR) := hnR
    clear hnC hnR
    have HAL : Hid (∀ w', Fr (fun _ => False) (w3.alloc (.cells #[.slice ac nC cc, .slice ar nR cr] 33)) w' → w'.cell? ⟨w3.heap.size, 0, none⟩ = some (.slice ac nC cc) ∧ w'.cell? ⟨w3.heap.size, 1, none⟩ = some (.slice ar nR cr)) := fun w' f => by
      obtain ⟨a, b, _⟩ := two_cells (blkOld f (heap_alloc_new w3 (.cells #[.slice ac nC cc, .slice ar nR cr] 33)))
      exact ⟨a, b⟩
    have HF34 : Hid (Fr (fun _ => False) w3 (w3.alloc (.cells #[.slice ac nC cc, .slice ar nR cr] 33))) := (Fr.refl _ _).alloc _
    have hee : (er != er) = false := by simp
    go_wp2_with fail
    generalize w3.alloc (.cells #[.slice ac nC cc, .slice ar nR cr] 33) = w4 at *
    generalize w3.heap.size = o at *
    clear b0 b1
    go_loopg [7, 8, 9] 2 (fun q kk _ _ wr => ∃ (k : Nat), k + q = 2 ∧ kk = .int .i64 (k : Int) ∧ Fr (fun _ => False) w4 wr)
    case atStart => exact ⟨0, by omega, rfl, Fr.refl _ _⟩
    case round =>
      obtain ⟨k, hkq, rfl, hfr⟩ := hrel
      have HFr : Hid (Fr (fun _ => False) w4 wr) := hfr
      have HF3r : Hid (Fr (fun _ => False) w3 wr) := HF34.out.trans hfr (fun _ _ h => h)
      have HF2r : Hid (Fr (fun _ => False) w2 wr) := HF3.out.trans HF3r.out (fun _ _ h => h)
      clear hfr
      by_cases h1 : k < 2
      · have d1 : decide ((k : Int) < 2) = true := decide_eq_true (by omega)
        go_wp2_with fail
        refine (HCL.out _ HF2r.out).mono ?_
        rintro e w5 ⟨cv, rv, U, rfl, hm5, hf5⟩
        obtain ⟨a5, c5, hcv⟩ := own_slice hm5.cls
        obtain ⟨r5, k5, hrv⟩ := own_slice hm5.reps
        rw [HNC.out] at hcv
        rw [HNR.out] at hrv
        subst hcv hrv
        have HM5 : Hid (Mat w5 wr.heap.size (.slice a5 nC c5) (.slice r5 nR k5) (cpB A U0) C R U) := hm5
        have HF5 : Hid (Fr (fun _ => False) wr w5) := hf5
        have HF45 : Hid (Fr (fun _ => False) w4 w5) := HFr.out.trans hf5 (fun _ _ h => h)
        have HF35 : Hid (Fr (fun _ => False) w3 w5) := HF3r.out.trans hf5 (fun _ _ h => h)
        clear hm5 hf5
        have HAL5 : Hid (∀ w', Fr (fun _ => False) (w5.alloc (.cells #[.slice a5 nC c5, .slice r5 nR k5] 33)) w' → w'.cell? ⟨w5.heap.size, 0, none⟩ = some (.slice a5 nC c5) ∧ w'.cell? ⟨w5.heap.size, 1, none⟩ = some (.slice r5 nR k5)) := fun w' f => by
          obtain ⟨a, b, _⟩ := two_cells (blkOld f (heap_alloc_new w5 (.cells #[.slice a5 nC c5, .slice r5 nR k5] 33)))
          exact ⟨a, b⟩
        have HF56 : Hid (Fr (fun _ => False) w5 (w5.alloc (.cells #[.slice a5 nC c5, .slice r5 nR k5] 33))) := (Fr.refl _ _).alloc _
        have HEM : Hid (∀ w', Fr (fun _ => False) w5 w' → Calls Try.prog 15 #[.agg #[.slice a5 nC c5, .slice r5 nR k5], .agg #[.slice ac nC cc, .slice ar nR cr]] w' fun e w'' => e = .returned (.bool true) ∧ Fr (fun _ => False) w' w'') := fun w' f => by
          have hm1 := (HM5.out.kept f (fun _ _ h => h)).toR
          have hm2 := HM3.out w' (HF35.out.trans f (fun _ _ h => h))
          have hcl : C.length ≤ 9223372036854775807 := by rw [HNC.out]; omega
          have q1 := hm1.row (fun c hc => by have := HRL.out c (by rw [← HNR.out]; exact hc); have e : (cpB A U0 (R.getD c 0)).l = (A (R.getD c 0)).l := rfl; rw [e]; omega)
          have q2 := hm2.row (fun c hc => by have := HRL.out c (by rw [← HNR.out]; exact hc); omega)
          rw [HNR.out] at q1 q2
          exact eqMatching_same a5 r5 ac ar nC nR c5 k5 cc cr C (repB (cpB A U0) R U) (repB A R U1) w' (SeenI.of_row hm1.cls hcl) (SeenI.of_row hm2.cls hcl) (by omega) q1 q2 (fun j hj => ⟨rfl, rfl, rfl⟩)
        obtain ⟨p0, p1⟩ := HAL.out _ (HF45.out.trans HF56.out (fun _ _ h => h))
        obtain ⟨t0, t1⟩ := HAL5.out _ (Fr.refl _ _)
        have HOV : Hid (∀ w', Fr (fun _ => False) w5 w' → Calls Try.prog 16 #[.slice r5 nR k5] w' fun e w'' => e = .returned (.bool true) ∧ Fr (fun b => ∃ c, c < nR ∧ (U c).ownBlock = some b) w' w'') := fun w' f => by
          have hm1 := HM5.out.kept f (fun _ _ h => h)
          have hR := hm1.reps
          rw [HNR.out] at hR
          refine overBitmaps_any nR (.slice r5 nR k5) (repCells (cpB A U0) U R nR) U (fun c => (A (R.getD c 0)).l.length) w' ⟨ownsRow_base hR (fun _ _ => Nat.zero_le _), fun c hc => ⟨_, ownsRow_base (hm1.words c (by rw [HNR.out]; exact hc)) (fun _ _ => Nat.zero_le _), mkd_zero⟩⟩ (fun c hc => (repCells_at _ U R nR c hc).2.2) (fun c hc => ?_) (by omega) (fun c c' g hc hc' => hm1.wsep c c' g (by rw [HNR.out]; exact hc) (by rw [HNR.out]; exact hc'))
          have := HRL.out c hc
          exact ⟨this.2, this.1⟩
        go_wp2_with fail
        generalize w5.alloc (.cells #[.slice a5 nC c5, .slice r5 nR k5] 33) = w6 at *
        refine (HEM.out _ HF56.out).mono ?_
        rintro e w7 ⟨rfl, hf7⟩
        have HF57 : Hid (Fr (fun _ => False) w5 w7) := HF56.out.trans hf7 (fun _ _ h => h)
        have HF67 : Hid (Fr (fun _ => False) w6 w7) := hf7
        clear hf7 p0 p1 t0 t1
        obtain ⟨t0, t1⟩ := HAL5.out _ HF67.out
        go_wp2_with fail
        refine (HOV.out _ HF57.out).mono ?_
        rintro e w8 ⟨rfl, hf8⟩
        have HSB : Hid (∀ b, (∃ c, c < nR ∧ (U c).ownBlock = some b) → wr.heap.size ≤ b) := fun b ⟨c, hc, hb⟩ => ((HM5.out.words c (by rw [HNR.out]; exact hc)).lt b hb).1
        have HST : Hid (∀ b, (∃ c, c < nR ∧ (U c).ownBlock = some b) → b < w5.heap.size) := fun b ⟨c, hc, hb⟩ => ((HM5.out.words c (by rw [HNR.out]; exact hc)).lt b hb).2
        have HF8 : Hid (Fr (fun b => ∃ c, c < nR ∧ (U c).ownBlock = some b) w7 w8) := hf8
        have HC8 : Hid (w8.ownsRow 0 3 1 (.slice a5 nC c5) nC (intCells C)) := by
          have h2 := (HM5.out.kept HF57.out (fun _ _ h => h)).cls
          rw [HNC.out] at h2
          refine row_kept (ownsRow_base h2 (fun _ _ => Nat.zero_le _)) hf8 (fun b hb hc => ?_)
          obtain ⟨c, hc, hb2⟩ := hc
          rcases own_ne2 h2 ((HM5.out.kept HF57.out (fun _ _ h => h)).words c (by rw [HNR.out]; exact hc)) (by decide) with h' | h'
          · rw [h'] at hb; cases hb
          · exact h' (hb.trans hb2.symm)
        have HOI : Hid (∀ w', w'.ownsRow 0 3 1 (.slice a5 nC c5) nC (intCells C) → Calls Try.prog 17 #[.slice a5 nC c5] w' fun e w'' => e = .returned (.tuple #[]) ∧ Fr (fun k => (Value.slice a5 nC c5).ownBlock = some k) w' w'') := fun w' h => overInts_any _ nC _ w' h (by omega)
        have HFw8 : Hid (Fr (fun _ => False) wr w8) := (HF5.out.trans HF57.out (fun _ _ h => h)).trans hf8 (fun k hk h => by have := HSB.out k h; omega)
        have HB8 : Hid (w5.heap.size < w8.heap.size ∧ w8.cell? ⟨w5.heap.size, 0, none⟩ = some (.slice a5 nC c5)) := by
          have h2 := seen_lt t0
          have h3 := hf8.size
          refine ⟨by omega, ?_⟩
          rw [hf8.cellEq h2 (fun h => by have := HST.out _ h; omega)]
          exact t0
        clear hf8 t0 t1
        have t0 := HB8.out.2
        go_wp2_with fail
        refine (HOI.out _ HC8.out).mono ?_
        rintro e w9 ⟨rfl, hf9⟩
        have HF9 : Hid (Fr (fun _ => False) w4 w9) := HFr.out.trans (HFw8.out.trans hf9 (fun k hk h => by have := (HM5.out.cls.lt k h).1; omega)) (fun _ _ h => h)
        clear hf9 t0
        go_wp2_with fail
        go_roundg (2 - (k + 1))
        case measure => omega
        case rel => exact ⟨k + 1, by omega, by go_num, HF9.out⟩
      · have d1 : decide ((k : Int) < 2) = false := decide_eq_false (by omega)
        have HFB : Hid (Fr (fun _ => False) w1 wr) := HF2.out.trans HF2r.out (fun _ _ h => h)
        obtain ⟨b0, b1⟩ := HBX.out _ HFB.out
        have HEB : Hid (Calls Try.prog 18 #[.slice bo n cb, .slice ao n cap] wr fun e w'' => e = .returned (.bool true) ∧ Fr (fun _ => False) wr w'') := eqBitmaps_same bo ao n cb cap (cpB A U0) A wr (by omega) (HX2.out wr HF2r.out).row (HBP.out wr (HA.out.trans HFB.out (fun _ _ h => h))).row (fun j hj => ⟨rfl, rfl, rfl⟩)
        go_wp2_with fail
        refine Calls.mono HEB.out ?_
        rintro e w5 ⟨rfl, hf5⟩
        have HF5 : Hid (Fr (fun _ => False) w w5) := (HA.out.trans HFB.out (fun _ _ h => h)).trans hf5 (fun _ _ h => h)
        clear hf5 b0 b1
        go_wp2_with fail
        refine (wakes_any _).mono ?_
        rintro e w6 ⟨rfl, hf6⟩
        have HF6 : Hid (Fr (fun _ => False) w w6) := HF5.out.trans hf6 (fun _ _ h => h)
        clear hf6
        go_wp2_with fail
        go_ret
        exact ⟨rfl, HF6.out⟩
end Go.Proofs.Ytodgdbbhllejkaa
