/- 'MatchEqual': with a tolerance of nought bitmaps have one class just if they are equal, with infinity just if they have one size. -/
import Derived.Test.YtodgdbbhllejkaaNe
import Derived.Test.YtodgdbbhllejkaaWk
namespace Go.Proofs.Ytodgdbbhllejkaa
open Go.RowKit

/-- The three tolerances. -/
def tk (k : Nat) : Nat := if k = 0 then 0 else if k = 1 then 9223372036854775808 else 9218868437227405312
theorem tk_ok (k : Nat) : tolB (tk k) = true := by
  unfold tk
  split
  · decide +kernel
  · split <;> decide +kernel
/-- What is due. -/
def dueB (k : Nat) (a b : Bp) : Bool := if k = 2 then szEq a b else eqBp a b
theorem due_near {k : Nat} {a b : Bp} (hk : k < 3) (ha : Good a) (hb : Good b) : nrB (tk k) a b = dueB k a b := by
  unfold dueB tk
  obtain rfl | rfl | rfl : k = 0 ∨ k = 1 ∨ k = 2 := by omega
  · exact nrB_zero (by decide +kernel) ha hb
  · exact nrB_zero (by decide +kernel) ha hb
  · exact nrB_inf ha
theorem due_eq (k n : Nat) (A : Nat → Bp) (hk : k < 3) (hg : ∀ j, j < n → Good (A j)) (i j : Nat) (hi : i < n) (hj : j < n) :
    (((clC (nrA (tk k) A) n).getD i 0 : Int) == ((clC (nrA (tk k) A) n).getD j 0 : Int)) = dueB k (A i) (A j) := by
  have hnr : ∀ i j, i < n → j < n → nrA (tk k) A i j = dueB k (A i) (A j) := fun i j hi hj => due_near hk (hg i hi) (hg j hj)
  have h := cl_equiv (nrA (tk k) A) n (fun i hi => by rw [hnr i i hi hi]; unfold dueB szEq eqBp; split <;> simp) (fun i j hi hj => by
    rw [hnr i j hi hj, hnr j i hj hi]
    unfold dueB szEq eqBp
    split
    · rw [Bool.eq_iff_iff]; simp only [Bool.and_eq_true, decide_eq_true_eq]; constructor <;> (rintro ⟨h1, h2⟩; exact ⟨h1.symm, h2.symm⟩)
    · rw [decide_eq_decide]; constructor <;> (rintro ⟨h1, h2, h3⟩; exact ⟨h1.symm, h2.symm, h3.symm⟩)) (fun i j k' hi hj hk' h1 h2 => by
    rw [hnr i j hi hj] at h1
    rw [hnr j k' hj hk'] at h2
    rw [hnr i k' hi hk']
    unfold dueB szEq eqBp at *
    by_cases e2 : k = 2
    · rw [if_pos e2, Bool.and_eq_true, decide_eq_true_eq, decide_eq_true_eq] at *
      exact ⟨h1.1.trans h2.1, h1.2.trans h2.2⟩
    · rw [if_neg e2, decide_eq_true_eq] at *
      exact ⟨h1.1.trans h2.1, h1.2.1.trans h2.2.1, h1.2.2.trans h2.2.2⟩) i j hi hj
  rw [hnr i j hi hj] at h
  rw [Bool.eq_iff_iff, ← h, beq_iff_eq]
  omega

set_option linter.unusedSimpArgs false in
set_option maxRecDepth 100000 in
set_option maxHeartbeats 8000000 in
theorem equalLaw_any (ao : Option Addr) (n cap : Nat) (T : Nat) (A : Nat → Bp) (w : World) (hB : BpsAt w ao n A) :
    Calls Try.prog 5 #[.agg #[.slice ao n cap, .int .u64 (T : Int)]] w fun e w' => e = .returned (.bool true) ∧ Fr (fun _ => False) w w' := by
  have HBP : Hid (∀ w', Fr (fun _ => False) w w' → BpsAt w' ao n A) := fun w' f => hB.kept f
  have hn := hB.len
  clear hB
  have HBX : Hid (∀ w', Fr (fun _ => False) (w.alloc (.cells #[.slice ao n cap, .int .u64 (T : Int)] 25)) w' → w'.cell? ⟨w.heap.size, 0, none⟩ = some (.slice ao n cap)) := fun w' f => (two_cells (blkOld f (heap_alloc_new w (.cells #[.slice ao n cap, .int .u64 (T : Int)] 25)))).1
  have HA : Hid (Fr (fun _ => False) w (w.alloc (.cells #[.slice ao n cap, .int .u64 (T : Int)] 25))) := (Fr.refl _ _).alloc _
  have b0 := HBX.out _ (Fr.refl _ _)
  have hneg : Op.unary .neg (.float .f64 0) = (pure (.float .f64 (Op.negFloat .f64 0)) : Sem Value) := rfl
  have hnf : Op.negFloat .f64 0 = 9223372036854775808 := by decide +kernel
  have hquo : ∀ ty w, (binOp .quo ty (.float .f64 4607182418800017408) (.float .f64 0)).run Try.prog w = .ok (.float .f64 9218868437227405312) w := fun ty w => run_float_arith w .quo ty .f64 _ _ _ (by decide +kernel)
  go_enter Try.func5, Try.ntmps5
  go_wp2_with fail
  generalize w.alloc (.cells #[.slice ao n cap, .int .u64 (T : Int)] 25) = w0 at *
  refine (mays_any ao n cap A _ (HBP.out _ HA.out)).mono ?_
  rintro e w1 ⟨bb, rfl, hbb, hf1⟩
  have HF1 : Hid (Fr (fun _ => False) w0 w1) := hf1
  clear hf1 b0
  cases bb
  · go_wp2_with fail
    refine (wakes_any _).mono ?_
    rintro e w2 ⟨rfl, hf2⟩
    have HF2 : Hid (Fr (fun _ => False) w w2) := (HA.out.trans HF1.out (fun _ _ h => h)).trans hf2 (fun _ _ h => h)
    clear hf2
    go_wp2_with fail
    go_ret
    exact ⟨rfl, HF2.out⟩
  · obtain ⟨hn40, hall⟩ := hbb rfl
    have HG : Hid (∀ j, j < n → Good (A j)) := fun j hj => ((HBP.out w (Fr.refl _ _)).ok j hj).good (of_decide_eq_true hall j hj)
    have HCL : Hid (∀ W k, Fr (fun _ => False) w W → Calls Try.prog 14 #[.slice ao n cap, .float .f64 (tk k)] W fun e w' => ∃ cv rv U, e = .returned (.tuple #[.agg #[cv, rv], .int .i64 0]) ∧ Mat w' W.heap.size cv rv A (clC (nrA (tk k) A) n) (clR (nrA (tk k) A) n) U ∧ Fr (fun _ => False) W w') := fun W k f => classes_ok ao n cap (tk k) A W (HBP.out W f) (by omega) (tk_ok k) hall (by have := clR_le (nrA (tk k) A) n; omega)
    have HDU : Hid (∀ k i j, k < 3 → i < n → j < n → (((clC (nrA (tk k) A) n).getD i 0 : Int) == ((clC (nrA (tk k) A) n).getD j 0 : Int)) = dueB k (A i) (A j)) := fun k i j hk hi hj => due_eq k n A hk HG.out i j hi hj
    have HTR : Hid (∀ w', Fr (fun _ => False) (w1.alloc (.cells #[.float .f64 0, .float .f64 9223372036854775808, .float .f64 9218868437227405312] 28)) w' → ∀ k, k < 3 → w'.cell? ⟨w1.heap.size, k, none⟩ = some (.float .f64 (tk k))) := fun w' f k hk => by
      obtain ⟨a, b, c, _⟩ := cell_of_three (blkOld f (heap_alloc_new w1 (.cells #[.float .f64 0, .float .f64 9223372036854775808, .float .f64 9218868437227405312] 28)))
      obtain rfl | rfl | rfl : k = 0 ∨ k = 1 ∨ k = 2 := by omega
      · exact a
      · exact b
      · exact c
    have HF4 : Hid (Fr (fun _ => False) w0 (w1.alloc (.cells #[.float .f64 0, .float .f64 9223372036854775808, .float .f64 9218868437227405312] 28))) := HF1.out.alloc _
    clear hbb hall
    go_wp2_with fail
    generalize w1.alloc (.cells #[.float .f64 0, .float .f64 9223372036854775808, .float .f64 9218868437227405312] 28) = w4 at *
    generalize w1.heap.size = g4 at *
    clear hneg hnf hquo
    go_loopg [5] 3 (fun q kk wr => ∃ (k : Nat), k + q = 3 ∧ kk = .int .i64 (k : Int) ∧ Fr (fun _ => False) w4 wr)
    case atStart => exact ⟨0, by omega, rfl, Fr.refl _ _⟩
    case round =>
      obtain ⟨k, hkq, rfl, hfr⟩ := hrel
      have HFr : Hid (Fr (fun _ => False) w4 wr) := hfr
      have HF0 : Hid (Fr (fun _ => False) w0 wr) := HF4.out.trans hfr (fun _ _ h => h)
      have HFw : Hid (Fr (fun _ => False) w wr) := HA.out.trans HF0.out (fun _ _ h => h)
      clear hfr
      by_cases hk3 : k < 3
      · have dk : decide ((k : Int) < 3) = true := decide_eq_true (by omega)
        have hk3i : (k : Int) < 3 := by omega
        have HS : Hid (∀ w', Fr (fun _ => False) wr w' → w'.cell? ⟨w.heap.size, 0, none⟩ = some (.slice ao n cap) ∧ w'.cell? ⟨g4, k, none⟩ = some (.float .f64 (tk k))) := fun w' f => ⟨HBX.out w' (HF0.out.trans f (fun _ _ h => h)), HTR.out w' (HFr.out.trans f (fun _ _ h => h)) k hk3⟩
        go_upto_region 8 with (fail)
        go_cut [6, 7] from 25 to 113 (fun u e wc => ∃ o cv rv U, u = .pointer (some ⟨o, 0, none⟩) ∧ e = .int .i64 0 ∧ wc.heap[o]? = some (.cells #[cv, rv] 33 (0, 0)) ∧ Mat wc 0 cv rv A (clC (nrA (tk k) A) n) (clR (nrA (tk k) A) n) U ∧ Fr (fun _ => False) wr wc)
        case first =>
          refine wp_region_held_drew (S := (fun w' => w'.cell? ⟨w.heap.size, 0, none⟩ = some (.slice ao n cap) ∧ w'.cell? ⟨g4, k, none⟩ = some (.float .f64 (tk k)))) (by kernel_rfl) (HS.out _ (Fr.drew (Fr.refl _ wr))) (fun hHeld => ?_)
          refine wpAnyH_take (i := 0) (oi := _) (v := ?vv0x1) rfl (by kernel_rfl) (by kernel_rfl) (by kernel_rfl) (fun _ _ _ h => h) (Or.inl ⟨by kernel_rfl, ?hy0x1⟩) (by assumption) ?_
          case hy0x1 => (intro w hSw; (try dsimp only at hSw); obtain ⟨s0, s1⟩ := hSw; go_simp; all_goals (with_reducible rfl))
          (try simp only [Act.put, List.setIfInBounds_toArray, List.set_cons_zero, List.set_cons_succ])
          refine wpAnyH_take (i := 1) (oi := _) (v := ?vv1x2) rfl (by kernel_rfl) (by kernel_rfl) (by kernel_rfl) (fun _ _ _ h => h) (Or.inl ⟨by kernel_rfl, ?hy1x2⟩) (by assumption) ?_
          case hy1x2 => (intro w hSw; (try dsimp only at hSw); obtain ⟨s0, s1⟩ := hSw; go_simp; all_goals (with_reducible rfl))
          (try simp only [Act.put, List.setIfInBounds_toArray, List.set_cons_zero, List.set_cons_succ])
          refine wpAnyH_take (i := 2) (oi := _) (v := ?vv2x3) rfl (by kernel_rfl) (by kernel_rfl) (by kernel_rfl) (fun _ _ _ h => h) (Or.inl ⟨by kernel_rfl, ?hy2x3⟩) (by assumption) ?_
          case hy2x3 => (intro w hSw; (try dsimp only at hSw); obtain ⟨s0, s1⟩ := hSw; go_simp; all_goals (with_reducible rfl))
          (try simp only [Act.put, List.setIfInBounds_toArray, List.set_cons_zero, List.set_cons_succ])
          refine wpAnyH_take (i := 3) (oi := _) (v := ?vv3x4) rfl (by kernel_rfl) (by kernel_rfl) (by kernel_rfl) (fun _ _ _ h => h) (Or.inl ⟨by kernel_rfl, ?hy3x4⟩) (by assumption) ?_
          case hy3x4 => (intro w hSw; (try dsimp only at hSw); obtain ⟨s0, s1⟩ := hSw; go_simp; all_goals (with_reducible rfl))
          (try simp only [Act.put, List.setIfInBounds_toArray, List.set_cons_zero, List.set_cons_succ])
          refine wpAnyH_take (i := 4) (oi := _) (v := ?vv4x5) rfl (by kernel_rfl) (by kernel_rfl) (by kernel_rfl) (fun _ _ _ h => h) (Or.inl ⟨by kernel_rfl, ?hy4x5⟩) (by assumption) ?_
          case hy4x5 => (intro w hSw; (try dsimp only at hSw); obtain ⟨s0, s1⟩ := hSw; go_simp; all_goals (with_reducible rfl))
          (try simp only [Act.put, List.setIfInBounds_toArray, List.set_cons_zero, List.set_cons_succ])
          refine wpAnyH_take (i := 5) (oi := _) (v := ?vv5x6) rfl (by kernel_rfl) (by kernel_rfl) (by kernel_rfl) (fun _ _ _ h => h) (Or.inl ⟨by kernel_rfl, ?hy5x6⟩) (by assumption) ?_
          case hy5x6 => (intro w hSw; (try dsimp only at hSw); obtain ⟨s0, s1⟩ := hSw; go_simp; all_goals (with_reducible rfl))
          (try simp only [Act.put, List.setIfInBounds_toArray, List.set_cons_zero, List.set_cons_succ])
          refine wpAnyH_ready (rs := [6, 10]) (by kernel_rfl) (by simp) ?_
          refine (AllReadyH.cons (o := _) rfl (fun K hK => ?_) (AllReadyH.cons (o := _) rfl (fun K hK => ?_) AllReadyH.nil))
          · go_simp
            refine Calls.mono (HCL.out _ k (Fr.trans HFw.out (Fr.drew (Fr.refl (fun _ => False) wr)) (fun _ _ h => h))) ?_
            rintro e w7 ⟨cv, rv, U, rfl, hmat, hf7⟩
            have hh7 : Hid (Fr (fun _ => False) wr w7) := Fr.trans (Fr.drew (Fr.refl (fun _ => False) wr)) hf7 (fun _ _ h => h)
            have hg7 : Hid (Fr (fun _ => False) wr.drew w7) := hf7
            have hm7 : Hid _ := hmat
            clear hf7 hmat
            go_simp
            refine hK.out _ _ (HS.out _ hh7.out) (fun hHeld => ?_)
            clear hK K
            (try simp only [Act.put, List.setIfInBounds_toArray, List.set_cons_zero, List.set_cons_succ])
            refine wpAnyH_take (i := 7) (oi := _) (v := ?vv7x7) rfl (by kernel_rfl) (by kernel_rfl) (by kernel_rfl) (fun _ _ _ h => h) (Or.inl ⟨by kernel_rfl, ?hy7x7⟩) (by assumption) ?_
            case hy7x7 => (intro w hSw; (try dsimp only at hSw); obtain ⟨s0, s1⟩ := hSw; go_simp; all_goals (with_reducible rfl))
            (try simp only [Act.put, List.setIfInBounds_toArray, List.set_cons_zero, List.set_cons_succ])
            refine wpAnyH_take (i := 8) (oi := _) (v := ?vv8x8) rfl (by kernel_rfl) (by kernel_rfl) (by kernel_rfl) (fun _ _ _ h => h) (Or.inl ⟨by kernel_rfl, ?hy8x8⟩) (by assumption) ?_
            case hy8x8 => (intro w hSw; (try dsimp only at hSw); obtain ⟨s0, s1⟩ := hSw; go_simp; all_goals (with_reducible rfl))
            (try simp only [Act.put, List.setIfInBounds_toArray, List.set_cons_zero, List.set_cons_succ])
            refine wpAnyH_take (i := 9) (oi := _) (v := ?vv9x9) rfl (by kernel_rfl) (by kernel_rfl) (by kernel_rfl) (fun _ _ _ h => h) (Or.inl ⟨by kernel_rfl, ?hy9x9⟩) (by assumption) ?_
            case hy9x9 => (intro w hSw; (try dsimp only at hSw); obtain ⟨s0, s1⟩ := hSw; go_simp; all_goals (with_reducible rfl))
            (try simp only [Act.put, List.setIfInBounds_toArray, List.set_cons_zero, List.set_cons_succ])
            obtain ⟨ac, cc, hcv⟩ := own_slice (Mat.cls hm7.out)
            obtain ⟨ar, cr, hrv⟩ := own_slice (Mat.reps hm7.out)
            subst hcv hrv
            refine wpAnyH_ready (rs := [10]) (by kernel_rfl) (by simp) ?_
            refine (AllReadyH.cons (o := _) rfl (fun K hK => ?_) AllReadyH.nil)
            go_simp
            refine hK.out _ _ (HS.out _ (Fr.alloc hh7.out _)) (fun hHeld => ?_)
            clear hK K
            (try simp only [Act.put, List.setIfInBounds_toArray, List.set_cons_zero, List.set_cons_succ])
            refine wpAnyH_ready (rs := [11]) (by kernel_rfl) (by simp) ?_
            refine (AllReadyH.cons (o := _) rfl (fun K hK => ?_) AllReadyH.nil)
            go_simp
            refine hK.out _ _ (HS.out _ (Fr.alloc hh7.out _)) (fun hHeld => ?_)
            clear hK K
            (try simp only [Act.put, List.setIfInBounds_toArray, List.set_cons_zero, List.set_cons_succ])
            refine wpAnyH_ready (rs := [12]) (by kernel_rfl) (by simp) ?_
            refine (AllReadyH.cons (o := _) rfl (fun K hK => ?_) AllReadyH.nil)
            go_simp
            refine hK.out _ _ (HS.out _ (Fr.alloc hh7.out _)) (fun hHeld => ?_)
            clear hK K
            (try simp only [Act.put, List.setIfInBounds_toArray, List.set_cons_zero, List.set_cons_succ])
            refine wpAnyH_done (by kernel_rfl) ?_ _
            go_wp2_with fail
            go_meet
            exact ⟨_, _, _, U, rfl, rfl, heap_alloc_new _ _, (Mat.kept hm7.out ((Fr.refl (fun _ => False) w7).alloc _) (fun _ _ h => h)).base (Nat.zero_le _), Fr.alloc hh7.out _⟩
          · go_simp
            refine hK.out _ _ (HS.out _ (Fr.alloc (Fr.drew (Fr.refl (fun _ => False) wr)) (.cells #[.slice none 0 0, .slice none 0 0] 33))) (fun hHeld => ?_)
            clear hK K
            (try simp only [Act.put, List.setIfInBounds_toArray, List.set_cons_zero, List.set_cons_succ])
            refine wpAnyH_ready (rs := [6]) (by kernel_rfl) (by simp) ?_
            refine (AllReadyH.cons (o := _) rfl (fun K hK => ?_) AllReadyH.nil)
            go_simp
            refine Calls.mono (HCL.out _ k (Fr.trans HFw.out (Fr.alloc (Fr.drew (Fr.refl (fun _ => False) wr)) (.cells #[.slice none 0 0, .slice none 0 0] 33)) (fun _ _ h => h))) ?_
            rintro e w7 ⟨cv, rv, U, rfl, hmat, hf7⟩
            have hh7 : Hid (Fr (fun _ => False) wr w7) := Fr.trans (Fr.alloc (Fr.drew (Fr.refl (fun _ => False) wr)) (.cells #[.slice none 0 0, .slice none 0 0] 33)) hf7 (fun _ _ h => h)
            have hg7 : Hid (Fr (fun _ => False) (World.alloc wr.drew (.cells #[.slice none 0 0, .slice none 0 0] 33)) w7) := hf7
            have hm7 : Hid _ := Mat.base hmat (show wr.heap.size + 1 ≤ (World.alloc wr.drew (.cells #[.slice none 0 0, .slice none 0 0] 33)).heap.size by rw [World.size_alloc]; exact Nat.le_refl _)
            clear hf7 hmat
            go_simp
            refine hK.out _ _ (HS.out _ hh7.out) (fun hHeld => ?_)
            clear hK K
            (try simp only [Act.put, List.setIfInBounds_toArray, List.set_cons_zero, List.set_cons_succ])
            refine wpAnyH_take (i := 7) (oi := _) (v := ?vv7x10) rfl (by kernel_rfl) (by kernel_rfl) (by kernel_rfl) (fun _ _ _ h => h) (Or.inl ⟨by kernel_rfl, ?hy7x10⟩) (by assumption) ?_
            case hy7x10 => (intro w hSw; (try dsimp only at hSw); obtain ⟨s0, s1⟩ := hSw; go_simp; all_goals (with_reducible rfl))
            (try simp only [Act.put, List.setIfInBounds_toArray, List.set_cons_zero, List.set_cons_succ])
            refine wpAnyH_take (i := 8) (oi := _) (v := ?vv8x11) rfl (by kernel_rfl) (by kernel_rfl) (by kernel_rfl) (fun _ _ _ h => h) (Or.inl ⟨by kernel_rfl, ?hy8x11⟩) (by assumption) ?_
            case hy8x11 => (intro w hSw; (try dsimp only at hSw); obtain ⟨s0, s1⟩ := hSw; go_simp; all_goals (with_reducible rfl))
            (try simp only [Act.put, List.setIfInBounds_toArray, List.set_cons_zero, List.set_cons_succ])
            refine wpAnyH_take (i := 9) (oi := _) (v := ?vv9x12) rfl (by kernel_rfl) (by kernel_rfl) (by kernel_rfl) (fun _ _ _ h => h) (Or.inl ⟨by kernel_rfl, ?hy9x12⟩) (by assumption) ?_
            case hy9x12 => (intro w hSw; (try dsimp only at hSw); obtain ⟨s0, s1⟩ := hSw; go_simp; all_goals (with_reducible rfl))
            (try simp only [Act.put, List.setIfInBounds_toArray, List.set_cons_zero, List.set_cons_succ])
            obtain ⟨ac, cc, hcv⟩ := own_slice (Mat.cls hm7.out)
            obtain ⟨ar, cr, hrv⟩ := own_slice (Mat.reps hm7.out)
            subst hcv hrv
            have hbo : w7.heap[wr.heap.size]? = some (.cells #[.slice none 0 0, .slice none 0 0] 33 (0, 0)) := blkOld hg7.out (heap_alloc_new wr.drew _)
            have hbo' : Hid (w7.heap[wr.heap.size]? = some (.cells #[.slice none 0 0, .slice none 0 0] 33 (0, 0))) := hbo
            have hfz : Hid (∀ a b : Value, Fr (fun k => k = wr.heap.size) w7 ((w7.setCell ⟨wr.heap.size, 0, none⟩ a).setCell ⟨wr.heap.size, 1, none⟩ b)) := fun a b => ((Fr.refl (fun k => k = wr.heap.size) w7).setCell (p := ⟨wr.heap.size, 0, none⟩) (fun _ => rfl) _).setCell (p := ⟨wr.heap.size, 1, none⟩) (fun _ => rfl) _
            obtain ⟨p0, p1, pf⟩ := two_cells hbo
            have q0 := pf 0
            have q1 := pf 1
            clear pf hbo
            refine wpAnyH_ready (rs := [11]) (by kernel_rfl) (by simp) ?_
            refine (AllReadyH.cons (o := _) rfl (fun K hK => ?_) AllReadyH.nil)
            go_simp
            refine hK.out _ _ (HS.out _ (Fr.trans hh7.out (hfz.out _ _) (fun k hk h => by omega))) (fun hHeld => ?_)
            clear hK K
            (try simp only [Act.put, List.setIfInBounds_toArray, List.set_cons_zero, List.set_cons_succ])
            refine wpAnyH_ready (rs := [12]) (by kernel_rfl) (by simp) ?_
            refine (AllReadyH.cons (o := _) rfl (fun K hK => ?_) AllReadyH.nil)
            go_simp
            refine hK.out _ _ (HS.out _ (Fr.trans hh7.out (hfz.out _ _) (fun k hk h => by omega))) (fun hHeld => ?_)
            clear hK K
            (try simp only [Act.put, List.setIfInBounds_toArray, List.set_cons_zero, List.set_cons_succ])
            refine wpAnyH_done (by kernel_rfl) ?_ _
            go_wp2_with fail
            go_meet
            exact ⟨_, _, _, U, rfl, rfl, set2_cells hbo'.out _ _, (Mat.kept hm7.out (hfz.out _ _) (fun k hk h => by omega)).base (Nat.zero_le _), Fr.trans hh7.out (hfz.out _ _) (fun k hk h => by omega)⟩
        case rest =>
          obtain ⟨o, cv, rv, U, rfl, rfl, hbo, hmt, hfc⟩ := hcut
          have HFC : Hid (Fr (fun _ => False) w wc) := HFw.out.trans hfc (fun _ _ h => h)
          have HF4c : Hid (Fr (fun _ => False) w4 wc) := HFr.out.trans hfc (fun _ _ h => h)
          obtain ⟨ac, cc, hcv⟩ := own_slice hmt.cls
          have hlc := length_clC (nrA (tk k) A) n
          rw [hlc] at hcv
          subst hcv
          have HMO : Hid (∀ w', Fr (fun _ => False) wc w' → w'.cell? ⟨o, 0, none⟩ = some (.slice ac n cc)) := fun w' f => (two_cells (blkOld f hbo)).1
          have HCC : Hid (∀ w', Fr (fun _ => False) wc w' → ∀ i, i < n → ∃ gc, ac = some ⟨gc, 0, none⟩ ∧ w'.cell? ⟨gc, i, none⟩ = some (.int .i64 (((clC (nrA (tk k) A) n).getD i 0 : Nat) : Int))) := fun w' f i hi => by
            have hr := row_kept hmt.cls f (fun _ _ h => h)
            rw [hlc] at hr
            obtain ⟨gc, cc', e, _⟩ := row_form hr (by omega)
            cases e
            exact ⟨gc, rfl, (hr.cellAt i (by omega)).trans (intCells_get _ (by rw [hlc]; exact hi))⟩
          have HBP' : Hid (∀ w', Fr (fun _ => False) wc w' → w'.cell? ⟨w.heap.size, 0, none⟩ = some (.slice ao n cap) ∧ BpsAt w' ao n A) := fun w' f => ⟨HBX.out w' ((HF0.out.trans hfc (fun _ _ h => h)).trans f (fun _ _ h => h)), HBP.out w' (HFC.out.trans f (fun _ _ h => h))⟩
          have HDK : Hid (∀ i j, i < n → j < n → (((clC (nrA (tk k) A) n).getD i 0 : Int) == ((clC (nrA (tk k) A) n).getD j 0 : Int)) = dueB k (A i) (A j)) := fun i j hi hj => HDU.out k i j hk3 hi hj
          have m0 := HMO.out _ (Fr.refl _ _)
          have l0 := (HBP'.out _ (Fr.refl _ _)).1
          have hnn : ((n : Int) != (n : Int)) = false := by simp
          clear hbo hmt hfc hlc
          generalize clC (nrA (tk k) A) n = C at *
          go_wp2_with fail
          go_loopg [8] n (fun q ii wi => ∃ (i : Nat), i + q = n ∧ ii = .int .i64 (i : Int) ∧ Fr (fun _ => False) wc wi)
          case atStart => exact ⟨0, by omega, rfl, Fr.refl _ _⟩
          case round =>
            obtain ⟨i, hiq, rfl, hfi⟩ := hrel
            have HFi : Hid (Fr (fun _ => False) wc wr) := hfi
            clear hfi m0 l0
            have l0 := (HBP'.out _ HFi.out).1
            by_cases hin : i < n
            · have di : decide (i < n) = true := decide_eq_true hin
              go_wp2_with fail
              go_loopg [9] i (fun q jj wj => ∃ (j : Nat), j + q = i ∧ jj = .int .i64 (j : Int) ∧ Fr (fun _ => False) wc wj)
              case atStart => exact ⟨0, by omega, rfl, HFi.out⟩
              case round =>
                obtain ⟨j, hjq, rfl, hfj⟩ := hrel
                have HFj : Hid (Fr (fun _ => False) wc wr) := hfj
                clear hfj l0
                by_cases hji : j < i
                · have dj : decide (j < i) = true := decide_eq_true hji
                  have hjn : j < n := by omega
                  have djn : decide (j < n) = true := decide_eq_true hjn
                  have hD := HDK.out i j hin hjn
                  obtain ⟨l0, hB⟩ := HBP'.out _ HFj.out
                  obtain ⟨b, off, hao, hcc⟩ := hB.cells (by omega)
                  obtain ⟨ki0, ki1, ki2⟩ := hcc i hin
                  obtain ⟨kj0, kj1, kj2⟩ := hcc j hjn
                  obtain ⟨avi, cvi, hvi, -⟩ := (hB.ok i hin).hv
                  obtain ⟨avj, cvj, hvj, -⟩ := (hB.ok j hjn).hv
                  subst hao
                  have HSI : Hid (∀ w', Fr (fun _ => False) wr w' → w'.cell? ⟨w.heap.size, 0, none⟩ = some (.slice (some ⟨b, off, none⟩) n cap) ∧ (w'.cell? ⟨b, off + i * 3, none⟩ = some (.int .i64 (A i).x) ∧ w'.cell? ⟨b, off + i * 3 + 1, none⟩ = some (.int .i64 (A i).y) ∧ w'.cell? ⟨b, off + i * 3 + 2, none⟩ = some (.slice avi (A i).l.length cvi)) ∧ (w'.cell? ⟨b, off + j * 3, none⟩ = some (.int .i64 (A j).x) ∧ w'.cell? ⟨b, off + j * 3 + 1, none⟩ = some (.int .i64 (A j).y) ∧ w'.cell? ⟨b, off + j * 3 + 2, none⟩ = some (.slice avj (A j).l.length cvj))) := fun w' f => by
                    have hlt := seen_lt ki0
                    refine ⟨by rw [f.cellEq (seen_lt l0) (fun h => h)]; exact l0, ⟨?_, ?_, ?_⟩, ?_, ?_, ?_⟩ <;> rw [f.cellEq hlt (fun h => h)]
                    · exact ki0
                    · exact ki1
                    · rw [ki2, hvi]
                    · exact kj0
                    · exact kj1
                    · rw [kj2, hvj]
                  have HEB : Hid (∀ w', Fr (fun _ => False) wr w' → Calls Try.prog 23 #[.agg #[.int .i64 (A i).x, .int .i64 (A i).y, .slice avi (A i).l.length cvi], .agg #[.int .i64 (A j).x, .int .i64 (A j).y, .slice avj (A j).l.length cvj]] w' fun e w'' => e = .returned (.bool (eqBp (A i) (A j))) ∧ Fr (fun _ => False) w' w'') := fun w' f => by
                    have := eqB_bp (w := w') (a := A i) (b := A j) (A i).v (A j).v (HG.out i hin) (HG.out j hjn) ((hB.ok i hin).hv.kept f) ((hB.ok j hjn).hv.kept f)
                    rw [hvi, hvj] at this
                    exact this
                  have HCI : Hid (∀ w', Fr (fun _ => False) wr w' → ∃ gc, ac = some ⟨gc, 0, none⟩ ∧ w'.cell? ⟨o, 0, none⟩ = some (.slice ac n cc) ∧ w'.cell? ⟨gc, i, none⟩ = some (.int .i64 ((C.getD i 0 : Nat) : Int)) ∧ w'.cell? ⟨gc, j, none⟩ = some (.int .i64 ((C.getD j 0 : Nat) : Int))) := fun w' f => by
                    have f' := HFj.out.trans f (fun _ _ h => h)
                    obtain ⟨gc, e, h1⟩ := HCC.out w' f' i hin
                    obtain ⟨gc', e', h2⟩ := HCC.out w' f' j hjn
                    rw [e] at e'
                    cases e'
                    exact ⟨gc, e, HMO.out w' f', h1, h2⟩
                  have HKD : Hid (dueB k (A i) (A j) = if k = 2 then szEq (A i) (A j) else eqBp (A i) (A j)) := rfl
                  have HSZ : Hid (szEq (A i) (A j) = (decide ((A i).x = (A j).x) && decide ((A i).y = (A j).y))) := rfl
                  clear ki0 ki1 ki2 kj0 kj1 kj2 hvi hvj hcc hB
                  generalize dueB k (A i) (A j) = due at *
                  generalize eqBp (A i) (A j) = eqv at *
                  generalize szEq (A i) (A j) = szv at *
                  generalize (A i).l.length = li at *
                  generalize (A j).l.length = lj at *
                  generalize (A i).x = xi at *
                  generalize (A i).y = yi at *
                  generalize (A j).x = xj at *
                  generalize (A j).y = yj at *
                  generalize C.getD i 0 = ci at *
                  generalize C.getD j 0 = cj at *
                  go_upto_region 17 with (fail)
                  have hqq : (due != due) = false := by simp
                  by_cases hk2 : k = 2
                  · have hke : ((k : Int) == 2) = true := by rw [beq_iff_eq]; omega
                    have hdz : due = szv := by have := HKD.out; rwa [if_pos hk2] at this
                    clear hk2
                    subst hdz
                    go_region_held3 (fun w' => w'.cell? ⟨w.heap.size, 0, none⟩ = some (.slice (some ⟨b, off, none⟩) n cap) ∧ (w'.cell? ⟨b, off + i * 3, none⟩ = some (.int .i64 xi) ∧ w'.cell? ⟨b, off + i * 3 + 1, none⟩ = some (.int .i64 yi) ∧ w'.cell? ⟨b, off + i * 3 + 2, none⟩ = some (.slice avi li cvi)) ∧ (w'.cell? ⟨b, off + j * 3, none⟩ = some (.int .i64 xj) ∧ w'.cell? ⟨b, off + j * 3 + 1, none⟩ = some (.int .i64 yj) ∧ w'.cell? ⟨b, off + j * 3 + 2, none⟩ = some (.slice avj lj cvj))) (first | exact HSI.out _ (Fr.refl _ _).drew | exact HSI.out _ hf5'.out) (first | (go_at_call 23; refine (HEB.out _ (Fr.refl _ _).drew).mono ?_; rintro e w5 ⟨rfl, hf5⟩; (have hf5' : Hid (Fr (fun _ => False) wr w5) := (Fr.refl (fun _ => False) wr).drew.trans hf5 (fun _ _ h => h)); clear hf5))
                    obtain ⟨q0, ⟨q1, q2, q3⟩, q4, q5, q6⟩ := HSI.out _ hf5'.out
                    go_upto_region 19 with (fail)
                    by_cases hxx : xi = xj
                    · have hx1 : (xi == xj) = true := by rw [beq_iff_eq]; exact hxx
                      have hdd : due = (yi == yj) := by rw [HSZ.out, decide_eq_true hxx, Bool.true_and]; rfl
                      have hD' : ((ci : Int) == (cj : Int)) = (yi == yj) := hD.trans hdd
                      clear hxx hD hdd HSZ HKD hqq
                      cases hyy : (yi == yj) <;> rw [hyy] at hD'
                      · go_quiet (fail)
                        have hfz : Hid (Fr (fun _ => False) wr (w5.drewN nq)) := hf5'.out.drewN _
                        clear q0 q1 q2 q3 q4 q5 q6
                        generalize w5.drewN nq = wz at *
                        go_wp2_with fail
                        obtain ⟨gc, hac, r0, r1, r2⟩ := HCI.out _ hfz.out
                        subst hac
                        go_quiet (fail)
                        have HFz : Hid (Fr (fun _ => False) wc (wz.drewN nq)) := (HFj.out.trans hfz.out (fun _ _ h => h)).drewN _
                        go_wp2_with fail
                        go_roundg (i - (j + 1))
                        case measure => omega
                        case rel => exact ⟨j + 1, by omega, by go_num, HFz.out⟩

                      · go_quiet (fail)
                        have hfz : Hid (Fr (fun _ => False) wr (w5.drewN nq)) := hf5'.out.drewN _
                        clear q0 q1 q2 q3 q4 q5 q6
                        generalize w5.drewN nq = wz at *
                        go_wp2_with fail
                        obtain ⟨gc, hac, r0, r1, r2⟩ := HCI.out _ hfz.out
                        subst hac
                        go_quiet (fail)
                        have HFz : Hid (Fr (fun _ => False) wc (wz.drewN nq)) := (HFj.out.trans hfz.out (fun _ _ h => h)).drewN _
                        go_wp2_with fail
                        go_roundg (i - (j + 1))
                        case measure => omega
                        case rel => exact ⟨j + 1, by omega, by go_num, HFz.out⟩

                    · have hx1 : (xi == xj) = false := by rw [beq_eq_false_iff_ne]; exact hxx
                      have hD' : ((ci : Int) == (cj : Int)) = false := by rw [hD, HSZ.out, decide_eq_false hxx]; rfl
                      have hqz : (((ci : Int) == (cj : Int)) != false) = false := by rw [hD']; rfl
                      clear hxx hD HSZ HKD hqq
                      go_quiet (fail)
                      have hfz : Hid (Fr (fun _ => False) wr (w5.drewN nq)) := hf5'.out.drewN _
                      clear q0 q1 q2 q3 q4 q5 q6
                      generalize w5.drewN nq = wz at *
                      go_wp2_with fail
                      obtain ⟨gc, hac, r0, r1, r2⟩ := HCI.out _ hfz.out
                      subst hac
                      go_quiet (fail)
                      have HFz : Hid (Fr (fun _ => False) wc (wz.drewN nq)) := (HFj.out.trans hfz.out (fun _ _ h => h)).drewN _
                      go_wp2_with fail
                      go_roundg (i - (j + 1))
                      case measure => omega
                      case rel => exact ⟨j + 1, by omega, by go_num, HFz.out⟩

                  · have hke : ((k : Int) == 2) = false := by rw [beq_eq_false_iff_ne]; omega
                    have hdz : due = eqv := by have := HKD.out; rwa [if_neg hk2] at this
                    clear hk2
                    subst hdz
                    clear HKD HSZ hqq
                    cases due
                    · go_region_held3 (fun w' => w'.cell? ⟨w.heap.size, 0, none⟩ = some (.slice (some ⟨b, off, none⟩) n cap) ∧ (w'.cell? ⟨b, off + i * 3, none⟩ = some (.int .i64 xi) ∧ w'.cell? ⟨b, off + i * 3 + 1, none⟩ = some (.int .i64 yi) ∧ w'.cell? ⟨b, off + i * 3 + 2, none⟩ = some (.slice avi li cvi)) ∧ (w'.cell? ⟨b, off + j * 3, none⟩ = some (.int .i64 xj) ∧ w'.cell? ⟨b, off + j * 3 + 1, none⟩ = some (.int .i64 yj) ∧ w'.cell? ⟨b, off + j * 3 + 2, none⟩ = some (.slice avj lj cvj))) (first | exact HSI.out _ (Fr.refl _ _).drew | exact HSI.out _ hf5'.out) (first | (go_at_call 23; refine (HEB.out _ (Fr.refl _ _).drew).mono ?_; rintro e w5 ⟨rfl, hf5⟩; (have hf5' : Hid (Fr (fun _ => False) wr w5) := (Fr.refl (fun _ => False) wr).drew.trans hf5 (fun _ _ h => h)); clear hf5))
                      have hfz : Hid (Fr (fun _ => False) wr w5) := hf5'.out
                      generalize w5 = wz at *
                      go_upto_region 20 with (fail)
                      obtain ⟨gc, hac, r0, r1, r2⟩ := HCI.out _ hfz.out
                      subst hac
                      go_quiet (fail)
                      have HFz : Hid (Fr (fun _ => False) wc (wz.drewN nq)) := (HFj.out.trans hfz.out (fun _ _ h => h)).drewN _
                      go_wp2_with fail
                      go_roundg (i - (j + 1))
                      case measure => omega
                      case rel => exact ⟨j + 1, by omega, by go_num, HFz.out⟩
                    · go_region_held3 (fun w' => w'.cell? ⟨w.heap.size, 0, none⟩ = some (.slice (some ⟨b, off, none⟩) n cap) ∧ (w'.cell? ⟨b, off + i * 3, none⟩ = some (.int .i64 xi) ∧ w'.cell? ⟨b, off + i * 3 + 1, none⟩ = some (.int .i64 yi) ∧ w'.cell? ⟨b, off + i * 3 + 2, none⟩ = some (.slice avi li cvi)) ∧ (w'.cell? ⟨b, off + j * 3, none⟩ = some (.int .i64 xj) ∧ w'.cell? ⟨b, off + j * 3 + 1, none⟩ = some (.int .i64 yj) ∧ w'.cell? ⟨b, off + j * 3 + 2, none⟩ = some (.slice avj lj cvj))) (first | exact HSI.out _ (Fr.refl _ _).drew | exact HSI.out _ hf5'.out) (first | (go_at_call 23; refine (HEB.out _ (Fr.refl _ _).drew).mono ?_; rintro e w5 ⟨rfl, hf5⟩; (have hf5' : Hid (Fr (fun _ => False) wr w5) := (Fr.refl (fun _ => False) wr).drew.trans hf5 (fun _ _ h => h)); clear hf5))
                      have hfz : Hid (Fr (fun _ => False) wr w5) := hf5'.out
                      generalize w5 = wz at *
                      go_upto_region 20 with (fail)
                      obtain ⟨gc, hac, r0, r1, r2⟩ := HCI.out _ hfz.out
                      subst hac
                      go_quiet (fail)
                      have HFz : Hid (Fr (fun _ => False) wc (wz.drewN nq)) := (HFj.out.trans hfz.out (fun _ _ h => h)).drewN _
                      go_wp2_with fail
                      go_roundg (i - (j + 1))
                      case measure => omega
                      case rel => exact ⟨j + 1, by omega, by go_num, HFz.out⟩
                · have dj : decide (j < i) = false := decide_eq_false hji
                  go_wp2_with fail
                  go_roundg (n - (i + 1))
                  case measure => omega
                  case rel => exact ⟨i + 1, by omega, by go_num, HFj.out⟩
            · have di : decide (i < n) = false := decide_eq_false hin
              go_wp2_with fail
              go_roundg (3 - (k + 1))
              case measure => omega
              case rel => exact ⟨k + 1, by omega, by go_num, HF4c.out.trans HFi.out (fun _ _ h => h)⟩
      · have dk : decide ((k : Int) < 3) = false := decide_eq_false (by omega)
        go_wp2_with fail
        refine (wakes_any _).mono ?_
        rintro e w2 ⟨rfl, hf2⟩
        have HF2 : Hid (Fr (fun _ => False) w w2) := HFw.out.trans hf2 (fun _ _ h => h)
        clear hf2
        go_wp2_with fail
        go_ret
        exact ⟨rfl, HF2.out⟩
end Go.Proofs.Ytodgdbbhllejkaa
