/- The reference's 'Read'. -/
import Derived.Test.YtpfajkkjnobdlaaDoorQd
import Derived.Test.YtpfajkkjnobdlaaDoorMay
namespace Go.Proofs.YtpfajkkjnobdlaaDoor
set_option maxRecDepth 100000
open Go.RowKit

theorem number_most {l r : List Nat} {n : Nat} (h : numberS l = some (n, r)) : n ≤ 2147483648 := by
  unfold numberS at h
  split at h
  · cases h
  · split at h
    · have := numS_lt 0 (gapS false l) (by omega)
      rw [Option.some.injEq] at h
      rw [h] at this
      exact this
    · cases h
theorem sizeOK_nat (W H : Nat) : sizeOK (W : Int) (H : Int) = sizeS W H := by
  unfold sizeOK sizeS
  rw [Bool.eq_iff_iff]
  simp only [decide_eq_true_eq, Bool.and_eq_true]
  have e : (W : Int) * (H : Int) = ((W * H : Nat) : Int) := by push_cast; rfl
  rw [e]
  omega
theorem ctl_none (l : List Nat) (h : ¬ ∃ r, l = 80 :: 49 :: r) (h2 : ¬ ∃ r, l = 80 :: 52 :: r) : readS l = .error 30 := by
  unfold readS
  split
  · exact absurd ⟨_, rfl⟩ h
  · exact absurd ⟨_, rfl⟩ h2
  · rfl

set_option linter.unusedSimpArgs false in
set_option maxHeartbeats 4000000 in
theorem rread_any (ao : Option Addr) (cap : Nat) (l : List Nat) (w : World) (h : By8 w ao l) :
    Calls Tryd.prog 15 #[.slice ao l.length cap] w (ReadQ w (readS l)) := by
  have HB : Hid (By8 w ao l) := h
  have hlim := h.lim
  have HB8 : Hid (∀ w', Fr (fun _ => False) w w' → By8 w' ao l) := fun w' f => h.kept f (fun _ h => h.elim)
  have HNB : Hid (∀ w' b, Fr (fun _ => False) w w' → b ≤ l.length → Calls Tryd.prog 30 #[.slice ao l.length cap, .int .i64 (b : Int)] w' fun e w'' => NumQ l.length l (numberS (l.drop b)) e ∧ w'' = w') := fun w' b f hb => rnumber_any ao cap l b w' (HB8.out w' f) hb
  obtain ⟨n, hn⟩ : ∃ n, n = l.length := ⟨_, rfl⟩
  have HN : Hid (n = l.length) := hn
  rw [← hn] at hlim HNB ⊢
  obtain ⟨R0, hR0⟩ : ∃ R0, R0 = readS l := ⟨_, rfl⟩
  have HR0 : Hid (R0 = readS l) := hR0
  rw [← hR0]
  clear h hn hR0
  have HF1 : Hid (Fr (fun _ => False) w (w.alloc (.cells #[.int .i64 0, .int .i64 0, .slice none 0 0] 25))) := (Fr.refl _ w).alloc _
  have HB1 : Hid ((w.alloc (.cells #[.int .i64 0, .int .i64 0, .slice none 0 0] 25)).heap[w.heap.size]? = some (.cells #[.int .i64 0, .int .i64 0, .slice none 0 0] 25 (0, 0))) := heap_alloc_new w _
  go_enter Tryd.func15, Tryd.ntmps15
  go_upto_region 1 with (fail)
  generalize (w.alloc (.cells #[.int .i64 0, .int .i64 0, .slice none 0 0] 25)) = w1 at *
  obtain ⟨B2, hB2⟩ : ∃ B2, B2 = w.heap.size := ⟨_, rfl⟩
  rw [← hB2] at HB1 ⊢
  have HBW : Hid (B2 = w.heap.size) := hB2
  clear hB2
  by_cases h2 : n < 2
  · have hlt : decide ((n : Int) < 2) = true := decide_eq_true (by omega)
    have hlt2 : decide (n < 2) = true := decide_eq_true h2
    have HR1 : Hid (R0 = .error 30) := by
      show _ = _
      rw [HR0.out]
      refine ctl_none l ?_ ?_ <;> (rintro ⟨r, e⟩; have := HN.out; rw [e] at this; simp at this; omega)
    clear h2
    obtain ⟨t0, t1, t2, tf⟩ := cell_of_three HB1.out
    have h3 := three_all (x' := .int .i64 0) (y' := .int .i64 0) (z' := .slice none 0 0) HB1.out
    have HB9 : Hid ((((w1.setCell ⟨B2, 0, none⟩ (.int .i64 0)).setCell ⟨B2, 1, none⟩ (.int .i64 0)).setCell ⟨B2, 2, none⟩ (.slice none 0 0)).heap[B2]? = some (.cells #[.int .i64 0, .int .i64 0, .slice none 0 0] 25 (0, 0))) := h3
    have HF9 : Hid (Fr (fun k => k = B2) w1 (((w1.setCell ⟨B2, 0, none⟩ (.int .i64 0)).setCell ⟨B2, 1, none⟩ (.int .i64 0)).setCell ⟨B2, 2, none⟩ (.slice none 0 0))) := (((Fr.refl (fun k => k = B2) w1).setCell (fun _ => rfl) _).setCell (fun _ => rfl) _).setCell (fun _ => rfl) _
    clear h3
    go_wp2_with fail
    generalize (((w1.setCell ⟨B2, 0, none⟩ (.int .i64 0)).setCell ⟨B2, 1, none⟩ (.int .i64 0)).setCell ⟨B2, 2, none⟩ (.slice none 0 0)) = w9 at *
    clear t0 t1 t2 tf
    obtain ⟨t0, t1, t2, tf⟩ := cell_of_three HB9.out
    refine bodyPost_ret (v := .tuple #[.agg zeroB, .int .i64 ((30 : Nat) : Int)]) (by simp [zeroB, results, Tryd.results15, go_sem, t0, t1, t2]) rfl (err_ret (HF1.out.trans HF9.out (fun i hi e => by have := HBW.out; omega)) HR1.out)
  · have hlt : decide ((n : Int) < 2) = false := decide_eq_false (by omega)
    have hlt2 : decide (n < 2) = false := decide_eq_false h2
    obtain ⟨c, d, r0, hl0⟩ : ∃ c d r, l = c :: d :: r := by
      have := HN.out
      match l, this with
      | [], e => simp at e; omega
      | [_], e => simp at e; omega
      | c :: d :: r, _ => exact ⟨c, d, r, rfl⟩
    obtain ⟨bb, off, rfl, hcc⟩ := HB.out.cell (by rw [hl0]; simp)
    have hc0 := hcc 0 (by rw [hl0]; simp)
    have hc1 := hcc 1 (by rw [hl0]; simp)
    have hc := HB.out.byt c (by rw [hl0]; simp)
    have hd := HB.out.byt d (by rw [hl0]; simp)
    rw [hl0] at hc0 hc1
    simp only [List.getElem?_cons_zero, List.getElem?_cons_succ, Option.getD_some, Nat.add_zero] at hc0 hc1
    have hn2 : (1 : Int) < (n : Int) := by omega
    have hn0 : (0 : Int) < (n : Int) := by omega
    have HN2 : Hid (Calls Tryd.prog 30 #[.slice (some ⟨bb, off, none⟩) n cap, .int .i64 2] w1 fun e w'' => NumQ n l (numberS (l.drop 2)) e ∧ w'' = w1) := HNB.out w1 2 HF1.out (by omega)
    clear hcc h2
    by_cases h80 : c = 80
    rotate_left
    · have h80b : ((c : Int) != 80) = true := by simp; omega
      have HR1 : Hid (R0 = .error 30) := by
        show _ = _
        rw [HR0.out]
        refine ctl_none l ?_ ?_ <;> (rintro ⟨r, e⟩; rw [hl0] at e; simp at e; omega)
      have c0w : w1.cell? ⟨bb, off, none⟩ = some (.int .u8 (c : Int)) := HF1.out.cellv hc0 (fun h => h)
      have c1w : w1.cell? ⟨bb, off + 1, none⟩ = some (.int .u8 (d : Int)) := HF1.out.cellv hc1 (fun h => h)
      clear hc0 hc1 hl0 h80
      obtain ⟨t0, t1, t2, tf⟩ := cell_of_three HB1.out
      have h3 := three_all (x' := .int .i64 0) (y' := .int .i64 0) (z' := .slice none 0 0) HB1.out
      have HB9 : Hid ((((w1.setCell ⟨B2, 0, none⟩ (.int .i64 0)).setCell ⟨B2, 1, none⟩ (.int .i64 0)).setCell ⟨B2, 2, none⟩ (.slice none 0 0)).heap[B2]? = some (.cells #[.int .i64 0, .int .i64 0, .slice none 0 0] 25 (0, 0))) := h3
      have HF9 : Hid (Fr (fun k => k = B2) w1 (((w1.setCell ⟨B2, 0, none⟩ (.int .i64 0)).setCell ⟨B2, 1, none⟩ (.int .i64 0)).setCell ⟨B2, 2, none⟩ (.slice none 0 0))) := (((Fr.refl (fun k => k = B2) w1).setCell (fun _ => rfl) _).setCell (fun _ => rfl) _).setCell (fun _ => rfl) _
      clear h3
      go_wp2_with fail
      generalize (((w1.setCell ⟨B2, 0, none⟩ (.int .i64 0)).setCell ⟨B2, 1, none⟩ (.int .i64 0)).setCell ⟨B2, 2, none⟩ (.slice none 0 0)) = w9 at *
      clear t0 t1 t2 tf
      obtain ⟨t0, t1, t2, tf⟩ := cell_of_three HB9.out
      refine bodyPost_ret (v := .tuple #[.agg zeroB, .int .i64 ((30 : Nat) : Int)]) (by simp [zeroB, results, Tryd.results15, go_sem, t0, t1, t2]) rfl (err_ret (HF1.out.trans HF9.out (fun i hi e => by have := HBW.out; omega)) HR1.out)
    · subst h80
      by_cases h49 : d = 49
      · subst h49
        have HR1 : Hid (R0 = bodyS true (l.drop 2)) := by show _ = _; rw [HR0.out, hl0]; rfl
        have HC1 : Hid (∀ w', Fr (fun _ => False) w w' → w'.cell? ⟨bb, off + 1, none⟩ = some (.int .u8 49)) := fun w' f => f.cellv hc1 (fun h => h)
        have c1w := HC1.out w1 HF1.out
        have c0w : w1.cell? ⟨bb, off, none⟩ = some (.int .u8 80) := HF1.out.cellv hc0 (fun h => h)
        clear hc0 hc1 HR0
        go_wp2_with fail
        refine Calls.mono HN2.out ?_
        rintro e wq ⟨hq, rfl⟩
        obtain ⟨w1, rfl⟩ : ∃ w1, w1 = wq := ⟨_, rfl⟩
        rcases hn1 : numberS (l.drop 2) with _ | ⟨W, r1⟩
        · rw [hn1] at hq
          simp only [NumQ] at hq
          subst hq
          have HR2 : Hid (R0 = .error 30) := by show _ = _; rw [HR1.out]; unfold bodyS; rw [hn1]
          clear hn1 c0w
          obtain ⟨t0, t1, t2, tf⟩ := cell_of_three HB1.out
          have h3 := three_all (x' := .int .i64 0) (y' := .int .i64 0) (z' := .slice none 0 0) HB1.out
          have HB9 : Hid ((((w1.setCell ⟨B2, 0, none⟩ (.int .i64 0)).setCell ⟨B2, 1, none⟩ (.int .i64 0)).setCell ⟨B2, 2, none⟩ (.slice none 0 0)).heap[B2]? = some (.cells #[.int .i64 0, .int .i64 0, .slice none 0 0] 25 (0, 0))) := h3
          have HF9 : Hid (Fr (fun k => k = B2) w1 (((w1.setCell ⟨B2, 0, none⟩ (.int .i64 0)).setCell ⟨B2, 1, none⟩ (.int .i64 0)).setCell ⟨B2, 2, none⟩ (.slice none 0 0))) := (((Fr.refl (fun k => k = B2) w1).setCell (fun _ => rfl) _).setCell (fun _ => rfl) _).setCell (fun _ => rfl) _
          clear h3
          go_wp2_with fail
          generalize (((w1.setCell ⟨B2, 0, none⟩ (.int .i64 0)).setCell ⟨B2, 1, none⟩ (.int .i64 0)).setCell ⟨B2, 2, none⟩ (.slice none 0 0)) = w9 at *
          clear t0 t1 t2 tf
          obtain ⟨t0, t1, t2, tf⟩ := cell_of_three HB9.out
          refine bodyPost_ret (v := .tuple #[.agg zeroB, .int .i64 ((30 : Nat) : Int)]) (by simp [zeroB, results, Tryd.results15, go_sem, t0, t1, t2]) rfl (err_ret (HF1.out.trans HF9.out (fun i hi e => by have := HBW.out; omega)) HR2.out)
        · rw [hn1] at hq
          obtain ⟨b1, rfl, hb1, hd1⟩ := hq
          have HR2 : Hid (R0 = match numberS r1 with | none => .error 30 | some (H, s) => if sizeS W H then (digitsS W H s) else .error 31) := by
            show _ = _
            rw [HR1.out]; unfold bodyS; rw [hn1]; rfl
          have HWM : Hid (W ≤ 2147483648) := number_most hn1
          have hb1I : ¬ ((b1 : Int) < 0) := by omega
          clear hn1 HR1
          go_wp2_with fail
          refine Calls.mono (HNB.out w1 b1 HF1.out hb1) ?_
          rintro e wq ⟨hq, rfl⟩
          obtain ⟨w1, rfl⟩ : ∃ w1, w1 = wq := ⟨_, rfl⟩
          rw [hd1] at hq
          rcases hn2 : numberS r1 with _ | ⟨H, r2⟩
          · rw [hn2] at hq
            simp only [NumQ] at hq
            subst hq
            have HR3 : Hid (R0 = .error 30) := by show _ = _; rw [HR2.out, hn2]
            clear hn2 hd1 HR2 c0w
            obtain ⟨t0, t1, t2, tf⟩ := cell_of_three HB1.out
            have h3 := three_all (x' := .int .i64 0) (y' := .int .i64 0) (z' := .slice none 0 0) HB1.out
            have HB9 : Hid ((((w1.setCell ⟨B2, 0, none⟩ (.int .i64 0)).setCell ⟨B2, 1, none⟩ (.int .i64 0)).setCell ⟨B2, 2, none⟩ (.slice none 0 0)).heap[B2]? = some (.cells #[.int .i64 0, .int .i64 0, .slice none 0 0] 25 (0, 0))) := h3
            have HF9 : Hid (Fr (fun k => k = B2) w1 (((w1.setCell ⟨B2, 0, none⟩ (.int .i64 0)).setCell ⟨B2, 1, none⟩ (.int .i64 0)).setCell ⟨B2, 2, none⟩ (.slice none 0 0))) := (((Fr.refl (fun k => k = B2) w1).setCell (fun _ => rfl) _).setCell (fun _ => rfl) _).setCell (fun _ => rfl) _
            clear h3
            go_wp2_with fail
            generalize (((w1.setCell ⟨B2, 0, none⟩ (.int .i64 0)).setCell ⟨B2, 1, none⟩ (.int .i64 0)).setCell ⟨B2, 2, none⟩ (.slice none 0 0)) = w9 at *
            clear t0 t1 t2 tf
            obtain ⟨t0, t1, t2, tf⟩ := cell_of_three HB9.out
            refine bodyPost_ret (v := .tuple #[.agg zeroB, .int .i64 ((30 : Nat) : Int)]) (by simp [zeroB, results, Tryd.results15, go_sem, t0, t1, t2]) rfl (err_ret (HF1.out.trans HF9.out (fun i hi e => by have := HBW.out; omega)) HR3.out)
          · rw [hn2] at hq
            obtain ⟨b2, rfl, hb2, hd2⟩ := hq
            have HR3 : Hid (R0 = if sizeS W H then (digitsS W H r2) else .error 31) := by show _ = _; rw [HR2.out, hn2]
            have HFI : Hid (first (l.drop b2) = false) := by show _ = _; rw [hd2]; exact numberS_end hn2
            have HHM : Hid (H ≤ 2147483648) := number_most hn2
            have HD2 : Hid (l.drop b2 = r2) := hd2
            have hb2I : ¬ ((b2 : Int) < 0) := by omega
            clear hn2 hd1 hd2 HR2
            go_wp2_with fail
            refine Calls.mono (zSize_any (W : Int) (H : Int) w1 (by have := HWM.out; omega) (by have := HHM.out; omega)) ?_
            rintro e wq ⟨rfl, rfl⟩
            obtain ⟨w1, rfl⟩ : ∃ w1, w1 = wq := ⟨_, rfl⟩
            rw [sizeOK_nat]
            cases hsz : sizeS W H
            · have HR4 : Hid (R0 = .error 31) := by show _ = _; rw [HR3.out, hsz]; rfl
              clear hsz HR3 c0w
              obtain ⟨t0, t1, t2, tf⟩ := cell_of_three HB1.out
              have h3 := three_all (x' := .int .i64 0) (y' := .int .i64 0) (z' := .slice none 0 0) HB1.out
              have HB9 : Hid ((((w1.setCell ⟨B2, 0, none⟩ (.int .i64 0)).setCell ⟨B2, 1, none⟩ (.int .i64 0)).setCell ⟨B2, 2, none⟩ (.slice none 0 0)).heap[B2]? = some (.cells #[.int .i64 0, .int .i64 0, .slice none 0 0] 25 (0, 0))) := h3
              have HF9 : Hid (Fr (fun k => k = B2) w1 (((w1.setCell ⟨B2, 0, none⟩ (.int .i64 0)).setCell ⟨B2, 1, none⟩ (.int .i64 0)).setCell ⟨B2, 2, none⟩ (.slice none 0 0))) := (((Fr.refl (fun k => k = B2) w1).setCell (fun _ => rfl) _).setCell (fun _ => rfl) _).setCell (fun _ => rfl) _
              clear h3
              go_wp2_with fail
              generalize (((w1.setCell ⟨B2, 0, none⟩ (.int .i64 0)).setCell ⟨B2, 1, none⟩ (.int .i64 0)).setCell ⟨B2, 2, none⟩ (.slice none 0 0)) = w9 at *
              clear t0 t1 t2 tf
              obtain ⟨t0, t1, t2, tf⟩ := cell_of_three HB9.out
              refine bodyPost_ret (v := .tuple #[.agg zeroB, .int .i64 ((31 : Nat) : Int)]) (by simp [zeroB, results, Tryd.results15, go_sem, t0, t1, t2]) rfl (err_ret (HF1.out.trans HF9.out (fun i hi e => by have := HBW.out; omega)) HR4.out)
            · have HR4 : Hid (R0 = digitsS W H r2) := by show _ = _; rw [HR3.out, hsz]; rfl
              have HCL : Hid (Calls Tryd.prog 33 #[.slice (some ⟨bb, off, none⟩) n cap, .int .i64 (b2 : Int), .int .i64 (W : Int), .int .i64 (H : Int)] w1 (ReadQ w1 R0)) := by
                have h := rtext_any (some ⟨bb, off, none⟩) cap l b2 W H w1 (HB8.out w1 HF1.out) (by rw [← HN.out]; exact hb2) hsz HFI.out
                rw [HD2.out, ← HR4.out, ← HN.out] at h
                exact h
              clear hsz HR3
              go_wp2_with fail
              refine Calls.mono HCL.out ?_
              rintro e w2 ⟨hf2, hq⟩
              have HF2 : Hid (Fr (fun _ => False) w1 w2) := hf2
              have HB1' : Hid (w2.heap[B2]? = some (.cells #[.int .i64 0, .int .i64 0, .slice none 0 0] 25 (0, 0))) := by show _ = _; rw [hf2.block _ (lt_of_block HB1.out) (fun h => h)]; exact HB1.out
              have HF1' : Hid (Fr (fun _ => False) w w2) := HF1.out.trans hf2 (fun _ _ h => h)
              clear hf2 HCL HR4
              rcases hR : R0 with er | ⟨X, Y, P⟩
              · rw [hR] at hq
                simp only [zeroB] at hq
                subst hq
                have HR5 : Hid (R0 = .error er) := hR
                clear hR c1w c0w
                obtain ⟨t0, t1, t2, tf⟩ := cell_of_three HB1'.out
                have h3 := three_all (x' := .int .i64 0) (y' := .int .i64 0) (z' := .slice none 0 0) HB1'.out
                have HB9 : Hid ((((w2.setCell ⟨B2, 0, none⟩ (.int .i64 0)).setCell ⟨B2, 1, none⟩ (.int .i64 0)).setCell ⟨B2, 2, none⟩ (.slice none 0 0)).heap[B2]? = some (.cells #[.int .i64 0, .int .i64 0, .slice none 0 0] 25 (0, 0))) := h3
                have HF9 : Hid (Fr (fun k => k = B2) w2 (((w2.setCell ⟨B2, 0, none⟩ (.int .i64 0)).setCell ⟨B2, 1, none⟩ (.int .i64 0)).setCell ⟨B2, 2, none⟩ (.slice none 0 0))) := (((Fr.refl (fun k => k = B2) w2).setCell (fun _ => rfl) _).setCell (fun _ => rfl) _).setCell (fun _ => rfl) _
                clear h3
                go_wp2_with fail
                generalize (((w2.setCell ⟨B2, 0, none⟩ (.int .i64 0)).setCell ⟨B2, 1, none⟩ (.int .i64 0)).setCell ⟨B2, 2, none⟩ (.slice none 0 0)) = w9 at *
                clear t0 t1 t2 tf
                obtain ⟨t0, t1, t2, tf⟩ := cell_of_three HB9.out
                refine bodyPost_ret (v := .tuple #[.agg zeroB, .int .i64 (er : Int)]) (by simp [zeroB, results, Tryd.results15, go_sem, t0, t1, t2]) rfl ?_
                first | exact err_ret (HF1'.out.trans HF9.out (fun i hi e => by have := HBW.out; omega)) HR5.out | exact err_ret (HF1'.out.trans HF9.out (fun i hi e => by have := HBW.out; omega)) rfl
              · rw [hR] at hq
                obtain ⟨v, rfl, g, cp, hv, ho, hg, z1, z2, z3⟩ := hq
                simp only at hv ho z1 z2 z3
                subst hv
                obtain ⟨NW, hNW⟩ : ∃ NW, NW = Y * stride X := ⟨_, rfl⟩
                have HNW : Hid (NW = Y * stride X) := hNW
                have HO : Hid (w2.ownsRow 0 50 1 (.slice (some ⟨g, 0, none⟩) (Y * stride X) cp) (Y * stride X) (wordCells (render X Y P))) := ho
                have HZ : Hid (1 ≤ X ∧ 1 ≤ Y ∧ X * Y ≤ 1048576) := ⟨z1, z2, z3⟩
                have HG : Hid (w1.heap.size ≤ g) := hg
                rw [← hNW]
                have HR5 : Hid (R0 = .ok (X, Y, P)) := hR
                clear hNW ho hg z1 z2 z3 c1w c0w hR
                obtain ⟨t0, t1, t2, tf⟩ := cell_of_three HB1'.out
                have h3 := three_all (x' := .int .i64 (X : Int)) (y' := .int .i64 (Y : Int)) (z' := .slice (some ⟨g, 0, none⟩) NW cp) HB1'.out
                have HB9 : Hid ((((w2.setCell ⟨B2, 0, none⟩ (.int .i64 (X : Int))).setCell ⟨B2, 1, none⟩ (.int .i64 (Y : Int))).setCell ⟨B2, 2, none⟩ (.slice (some ⟨g, 0, none⟩) NW cp)).heap[B2]? = some (.cells #[.int .i64 (X : Int), .int .i64 (Y : Int), .slice (some ⟨g, 0, none⟩) NW cp] 25 (0, 0))) := h3
                have HF9 : Hid (Fr (fun k => k = B2) w2 (((w2.setCell ⟨B2, 0, none⟩ (.int .i64 (X : Int))).setCell ⟨B2, 1, none⟩ (.int .i64 (Y : Int))).setCell ⟨B2, 2, none⟩ (.slice (some ⟨g, 0, none⟩) NW cp))) := (((Fr.refl (fun k => k = B2) w2).setCell (fun _ => rfl) _).setCell (fun _ => rfl) _).setCell (fun _ => rfl) _
                clear h3
                go_wp2_with fail
                generalize (((w2.setCell ⟨B2, 0, none⟩ (.int .i64 (X : Int))).setCell ⟨B2, 1, none⟩ (.int .i64 (Y : Int))).setCell ⟨B2, 2, none⟩ (.slice (some ⟨g, 0, none⟩) NW cp)) = w9 at *
                clear t0 t1 t2 tf
                obtain ⟨t0, t1, t2, tf⟩ := cell_of_three HB9.out
                refine bodyPost_ret (v := .tuple #[.agg #[.int .i64 (X : Int), .int .i64 (Y : Int), .slice (some ⟨g, 0, none⟩) NW cp], .int .i64 0]) (by simp [results, Tryd.results15, go_sem, t0, t1, t2]) rfl ?_
                have hg1 : w.heap.size ≤ g := Nat.le_trans HF1.out.size HG.out
                have hgB : g ≠ B2 := by
                  have := lt_of_block HB1.out
                  have := HG.out
                  omega
                rw [HR5.out]
                exact ⟨HF1'.out.trans HF9.out (fun i hi e => by have := HBW.out; omega), _, rfl, g, cp, by show _ = _; rw [HNW.out], row_kept HO.out HF9.out (fun k hk e => by simp [Value.ownBlock] at hk; omega), hg1, HZ.out.1, HZ.out.2.1, HZ.out.2.2⟩
      · by_cases h52 : d = 52
        · subst h52
          have HR1 : Hid (R0 = bodyS false (l.drop 2)) := by show _ = _; rw [HR0.out, hl0]; rfl
          have HC1 : Hid (∀ w', Fr (fun _ => False) w w' → w'.cell? ⟨bb, off + 1, none⟩ = some (.int .u8 52)) := fun w' f => f.cellv hc1 (fun h => h)
          have c1w := HC1.out w1 HF1.out
          have c0w : w1.cell? ⟨bb, off, none⟩ = some (.int .u8 80) := HF1.out.cellv hc0 (fun h => h)
          clear hc0 hc1 HR0
          go_wp2_with fail
          refine Calls.mono HN2.out ?_
          rintro e wq ⟨hq, rfl⟩
          obtain ⟨w1, rfl⟩ : ∃ w1, w1 = wq := ⟨_, rfl⟩
          rcases hn1 : numberS (l.drop 2) with _ | ⟨W, r1⟩
          · rw [hn1] at hq
            simp only [NumQ] at hq
            subst hq
            have HR2 : Hid (R0 = .error 30) := by show _ = _; rw [HR1.out]; unfold bodyS; rw [hn1]
            clear hn1 c0w
            obtain ⟨t0, t1, t2, tf⟩ := cell_of_three HB1.out
            have h3 := three_all (x' := .int .i64 0) (y' := .int .i64 0) (z' := .slice none 0 0) HB1.out
            have HB9 : Hid ((((w1.setCell ⟨B2, 0, none⟩ (.int .i64 0)).setCell ⟨B2, 1, none⟩ (.int .i64 0)).setCell ⟨B2, 2, none⟩ (.slice none 0 0)).heap[B2]? = some (.cells #[.int .i64 0, .int .i64 0, .slice none 0 0] 25 (0, 0))) := h3
            have HF9 : Hid (Fr (fun k => k = B2) w1 (((w1.setCell ⟨B2, 0, none⟩ (.int .i64 0)).setCell ⟨B2, 1, none⟩ (.int .i64 0)).setCell ⟨B2, 2, none⟩ (.slice none 0 0))) := (((Fr.refl (fun k => k = B2) w1).setCell (fun _ => rfl) _).setCell (fun _ => rfl) _).setCell (fun _ => rfl) _
            clear h3
            go_wp2_with fail
            generalize (((w1.setCell ⟨B2, 0, none⟩ (.int .i64 0)).setCell ⟨B2, 1, none⟩ (.int .i64 0)).setCell ⟨B2, 2, none⟩ (.slice none 0 0)) = w9 at *
            clear t0 t1 t2 tf
            obtain ⟨t0, t1, t2, tf⟩ := cell_of_three HB9.out
            refine bodyPost_ret (v := .tuple #[.agg zeroB, .int .i64 ((30 : Nat) : Int)]) (by simp [zeroB, results, Tryd.results15, go_sem, t0, t1, t2]) rfl (err_ret (HF1.out.trans HF9.out (fun i hi e => by have := HBW.out; omega)) HR2.out)
          · rw [hn1] at hq
            obtain ⟨b1, rfl, hb1, hd1⟩ := hq
            have HR2 : Hid (R0 = match numberS r1 with | none => .error 30 | some (H, s) => if sizeS W H then (rowsS W H s) else .error 31) := by
              show _ = _
              rw [HR1.out]; unfold bodyS; rw [hn1]; rfl
            have HWM : Hid (W ≤ 2147483648) := number_most hn1
            have hb1I : ¬ ((b1 : Int) < 0) := by omega
            clear hn1 HR1
            go_wp2_with fail
            refine Calls.mono (HNB.out w1 b1 HF1.out hb1) ?_
            rintro e wq ⟨hq, rfl⟩
            obtain ⟨w1, rfl⟩ : ∃ w1, w1 = wq := ⟨_, rfl⟩
            rw [hd1] at hq
            rcases hn2 : numberS r1 with _ | ⟨H, r2⟩
            · rw [hn2] at hq
              simp only [NumQ] at hq
              subst hq
              have HR3 : Hid (R0 = .error 30) := by show _ = _; rw [HR2.out, hn2]
              clear hn2 hd1 HR2 c0w
              obtain ⟨t0, t1, t2, tf⟩ := cell_of_three HB1.out
              have h3 := three_all (x' := .int .i64 0) (y' := .int .i64 0) (z' := .slice none 0 0) HB1.out
              have HB9 : Hid ((((w1.setCell ⟨B2, 0, none⟩ (.int .i64 0)).setCell ⟨B2, 1, none⟩ (.int .i64 0)).setCell ⟨B2, 2, none⟩ (.slice none 0 0)).heap[B2]? = some (.cells #[.int .i64 0, .int .i64 0, .slice none 0 0] 25 (0, 0))) := h3
              have HF9 : Hid (Fr (fun k => k = B2) w1 (((w1.setCell ⟨B2, 0, none⟩ (.int .i64 0)).setCell ⟨B2, 1, none⟩ (.int .i64 0)).setCell ⟨B2, 2, none⟩ (.slice none 0 0))) := (((Fr.refl (fun k => k = B2) w1).setCell (fun _ => rfl) _).setCell (fun _ => rfl) _).setCell (fun _ => rfl) _
              clear h3
              go_wp2_with fail
              generalize (((w1.setCell ⟨B2, 0, none⟩ (.int .i64 0)).setCell ⟨B2, 1, none⟩ (.int .i64 0)).setCell ⟨B2, 2, none⟩ (.slice none 0 0)) = w9 at *
              clear t0 t1 t2 tf
              obtain ⟨t0, t1, t2, tf⟩ := cell_of_three HB9.out
              refine bodyPost_ret (v := .tuple #[.agg zeroB, .int .i64 ((30 : Nat) : Int)]) (by simp [zeroB, results, Tryd.results15, go_sem, t0, t1, t2]) rfl (err_ret (HF1.out.trans HF9.out (fun i hi e => by have := HBW.out; omega)) HR3.out)
            · rw [hn2] at hq
              obtain ⟨b2, rfl, hb2, hd2⟩ := hq
              have HR3 : Hid (R0 = if sizeS W H then (rowsS W H r2) else .error 31) := by show _ = _; rw [HR2.out, hn2]
              have HFI : Hid (first (l.drop b2) = false) := by show _ = _; rw [hd2]; exact numberS_end hn2
              have HHM : Hid (H ≤ 2147483648) := number_most hn2
              have HD2 : Hid (l.drop b2 = r2) := hd2
              have hb2I : ¬ ((b2 : Int) < 0) := by omega
              clear hn2 hd1 hd2 HR2
              go_wp2_with fail
              refine Calls.mono (zSize_any (W : Int) (H : Int) w1 (by have := HWM.out; omega) (by have := HHM.out; omega)) ?_
              rintro e wq ⟨rfl, rfl⟩
              obtain ⟨w1, rfl⟩ : ∃ w1, w1 = wq := ⟨_, rfl⟩
              rw [sizeOK_nat]
              cases hsz : sizeS W H
              · have HR4 : Hid (R0 = .error 31) := by show _ = _; rw [HR3.out, hsz]; rfl
                clear hsz HR3 c0w
                obtain ⟨t0, t1, t2, tf⟩ := cell_of_three HB1.out
                have h3 := three_all (x' := .int .i64 0) (y' := .int .i64 0) (z' := .slice none 0 0) HB1.out
                have HB9 : Hid ((((w1.setCell ⟨B2, 0, none⟩ (.int .i64 0)).setCell ⟨B2, 1, none⟩ (.int .i64 0)).setCell ⟨B2, 2, none⟩ (.slice none 0 0)).heap[B2]? = some (.cells #[.int .i64 0, .int .i64 0, .slice none 0 0] 25 (0, 0))) := h3
                have HF9 : Hid (Fr (fun k => k = B2) w1 (((w1.setCell ⟨B2, 0, none⟩ (.int .i64 0)).setCell ⟨B2, 1, none⟩ (.int .i64 0)).setCell ⟨B2, 2, none⟩ (.slice none 0 0))) := (((Fr.refl (fun k => k = B2) w1).setCell (fun _ => rfl) _).setCell (fun _ => rfl) _).setCell (fun _ => rfl) _
                clear h3
                go_wp2_with fail
                generalize (((w1.setCell ⟨B2, 0, none⟩ (.int .i64 0)).setCell ⟨B2, 1, none⟩ (.int .i64 0)).setCell ⟨B2, 2, none⟩ (.slice none 0 0)) = w9 at *
                clear t0 t1 t2 tf
                obtain ⟨t0, t1, t2, tf⟩ := cell_of_three HB9.out
                refine bodyPost_ret (v := .tuple #[.agg zeroB, .int .i64 ((31 : Nat) : Int)]) (by simp [zeroB, results, Tryd.results15, go_sem, t0, t1, t2]) rfl (err_ret (HF1.out.trans HF9.out (fun i hi e => by have := HBW.out; omega)) HR4.out)
              · have HR4 : Hid (R0 = rowsS W H r2) := by show _ = _; rw [HR3.out, hsz]; rfl
                have HCL : Hid (Calls Tryd.prog 32 #[.slice (some ⟨bb, off, none⟩) n cap, .int .i64 (b2 : Int), .int .i64 (W : Int), .int .i64 (H : Int)] w1 (ReadQ w1 R0)) := by
                  have h := rbytes_any (some ⟨bb, off, none⟩) cap l b2 W H w1 (HB8.out w1 HF1.out) (by rw [← HN.out]; exact hb2) hsz
                  rw [HD2.out, ← HR4.out, ← HN.out] at h
                  exact h
                clear hsz HR3
                go_wp2_with fail
                refine Calls.mono HCL.out ?_
                rintro e w2 ⟨hf2, hq⟩
                have HF2 : Hid (Fr (fun _ => False) w1 w2) := hf2
                have HB1' : Hid (w2.heap[B2]? = some (.cells #[.int .i64 0, .int .i64 0, .slice none 0 0] 25 (0, 0))) := by show _ = _; rw [hf2.block _ (lt_of_block HB1.out) (fun h => h)]; exact HB1.out
                have HF1' : Hid (Fr (fun _ => False) w w2) := HF1.out.trans hf2 (fun _ _ h => h)
                clear hf2 HCL HR4
                rcases hR : R0 with er | ⟨X, Y, P⟩
                · rw [hR] at hq
                  simp only [zeroB] at hq
                  subst hq
                  have HR5 : Hid (R0 = .error er) := hR
                  clear hR c1w c0w
                  obtain ⟨t0, t1, t2, tf⟩ := cell_of_three HB1'.out
                  have h3 := three_all (x' := .int .i64 0) (y' := .int .i64 0) (z' := .slice none 0 0) HB1'.out
                  have HB9 : Hid ((((w2.setCell ⟨B2, 0, none⟩ (.int .i64 0)).setCell ⟨B2, 1, none⟩ (.int .i64 0)).setCell ⟨B2, 2, none⟩ (.slice none 0 0)).heap[B2]? = some (.cells #[.int .i64 0, .int .i64 0, .slice none 0 0] 25 (0, 0))) := h3
                  have HF9 : Hid (Fr (fun k => k = B2) w2 (((w2.setCell ⟨B2, 0, none⟩ (.int .i64 0)).setCell ⟨B2, 1, none⟩ (.int .i64 0)).setCell ⟨B2, 2, none⟩ (.slice none 0 0))) := (((Fr.refl (fun k => k = B2) w2).setCell (fun _ => rfl) _).setCell (fun _ => rfl) _).setCell (fun _ => rfl) _
                  clear h3
                  go_wp2_with fail
                  generalize (((w2.setCell ⟨B2, 0, none⟩ (.int .i64 0)).setCell ⟨B2, 1, none⟩ (.int .i64 0)).setCell ⟨B2, 2, none⟩ (.slice none 0 0)) = w9 at *
                  clear t0 t1 t2 tf
                  obtain ⟨t0, t1, t2, tf⟩ := cell_of_three HB9.out
                  refine bodyPost_ret (v := .tuple #[.agg zeroB, .int .i64 (er : Int)]) (by simp [zeroB, results, Tryd.results15, go_sem, t0, t1, t2]) rfl ?_
                  first | exact err_ret (HF1'.out.trans HF9.out (fun i hi e => by have := HBW.out; omega)) HR5.out | exact err_ret (HF1'.out.trans HF9.out (fun i hi e => by have := HBW.out; omega)) rfl
                · rw [hR] at hq
                  obtain ⟨v, rfl, g, cp, hv, ho, hg, z1, z2, z3⟩ := hq
                  simp only at hv ho z1 z2 z3
                  subst hv
                  obtain ⟨NW, hNW⟩ : ∃ NW, NW = Y * stride X := ⟨_, rfl⟩
                  have HNW : Hid (NW = Y * stride X) := hNW
                  have HO : Hid (w2.ownsRow 0 50 1 (.slice (some ⟨g, 0, none⟩) (Y * stride X) cp) (Y * stride X) (wordCells (render X Y P))) := ho
                  have HZ : Hid (1 ≤ X ∧ 1 ≤ Y ∧ X * Y ≤ 1048576) := ⟨z1, z2, z3⟩
                  have HG : Hid (w1.heap.size ≤ g) := hg
                  rw [← hNW]
                  have HR5 : Hid (R0 = .ok (X, Y, P)) := hR
                  clear hNW ho hg z1 z2 z3 c1w c0w hR
                  obtain ⟨t0, t1, t2, tf⟩ := cell_of_three HB1'.out
                  have h3 := three_all (x' := .int .i64 (X : Int)) (y' := .int .i64 (Y : Int)) (z' := .slice (some ⟨g, 0, none⟩) NW cp) HB1'.out
                  have HB9 : Hid ((((w2.setCell ⟨B2, 0, none⟩ (.int .i64 (X : Int))).setCell ⟨B2, 1, none⟩ (.int .i64 (Y : Int))).setCell ⟨B2, 2, none⟩ (.slice (some ⟨g, 0, none⟩) NW cp)).heap[B2]? = some (.cells #[.int .i64 (X : Int), .int .i64 (Y : Int), .slice (some ⟨g, 0, none⟩) NW cp] 25 (0, 0))) := h3
                  have HF9 : Hid (Fr (fun k => k = B2) w2 (((w2.setCell ⟨B2, 0, none⟩ (.int .i64 (X : Int))).setCell ⟨B2, 1, none⟩ (.int .i64 (Y : Int))).setCell ⟨B2, 2, none⟩ (.slice (some ⟨g, 0, none⟩) NW cp))) := (((Fr.refl (fun k => k = B2) w2).setCell (fun _ => rfl) _).setCell (fun _ => rfl) _).setCell (fun _ => rfl) _
                  clear h3
                  go_wp2_with fail
                  generalize (((w2.setCell ⟨B2, 0, none⟩ (.int .i64 (X : Int))).setCell ⟨B2, 1, none⟩ (.int .i64 (Y : Int))).setCell ⟨B2, 2, none⟩ (.slice (some ⟨g, 0, none⟩) NW cp)) = w9 at *
                  clear t0 t1 t2 tf
                  obtain ⟨t0, t1, t2, tf⟩ := cell_of_three HB9.out
                  refine bodyPost_ret (v := .tuple #[.agg #[.int .i64 (X : Int), .int .i64 (Y : Int), .slice (some ⟨g, 0, none⟩) NW cp], .int .i64 0]) (by simp [results, Tryd.results15, go_sem, t0, t1, t2]) rfl ?_
                  have hg1 : w.heap.size ≤ g := Nat.le_trans HF1.out.size HG.out
                  have hgB : g ≠ B2 := by
                    have := lt_of_block HB1.out
                    have := HG.out
                    omega
                  rw [HR5.out]
                  exact ⟨HF1'.out.trans HF9.out (fun i hi e => by have := HBW.out; omega), _, rfl, g, cp, by show _ = _; rw [HNW.out], row_kept HO.out HF9.out (fun k hk e => by simp [Value.ownBlock] at hk; omega), hg1, HZ.out.1, HZ.out.2.1, HZ.out.2.2⟩
        · have h49b : ((d : Int) != 49) = true := by simp; omega
          have h52b : ((d : Int) != 52) = true := by simp; omega
          have HR1 : Hid (R0 = .error 30) := by
            show _ = _
            rw [HR0.out]
            refine ctl_none l ?_ ?_ <;> (rintro ⟨r, e⟩; rw [hl0] at e; simp at e; omega)
          have c0w : w1.cell? ⟨bb, off, none⟩ = some (.int .u8 80) := HF1.out.cellv hc0 (fun h => h)
          have c1w : w1.cell? ⟨bb, off + 1, none⟩ = some (.int .u8 (d : Int)) := HF1.out.cellv hc1 (fun h => h)
          clear hc0 hc1 hl0 h49 h52
          obtain ⟨t0, t1, t2, tf⟩ := cell_of_three HB1.out
          have h3 := three_all (x' := .int .i64 0) (y' := .int .i64 0) (z' := .slice none 0 0) HB1.out
          have HB9 : Hid ((((w1.setCell ⟨B2, 0, none⟩ (.int .i64 0)).setCell ⟨B2, 1, none⟩ (.int .i64 0)).setCell ⟨B2, 2, none⟩ (.slice none 0 0)).heap[B2]? = some (.cells #[.int .i64 0, .int .i64 0, .slice none 0 0] 25 (0, 0))) := h3
          have HF9 : Hid (Fr (fun k => k = B2) w1 (((w1.setCell ⟨B2, 0, none⟩ (.int .i64 0)).setCell ⟨B2, 1, none⟩ (.int .i64 0)).setCell ⟨B2, 2, none⟩ (.slice none 0 0))) := (((Fr.refl (fun k => k = B2) w1).setCell (fun _ => rfl) _).setCell (fun _ => rfl) _).setCell (fun _ => rfl) _
          clear h3
          go_wp2_with fail
          generalize (((w1.setCell ⟨B2, 0, none⟩ (.int .i64 0)).setCell ⟨B2, 1, none⟩ (.int .i64 0)).setCell ⟨B2, 2, none⟩ (.slice none 0 0)) = w9 at *
          clear t0 t1 t2 tf
          obtain ⟨t0, t1, t2, tf⟩ := cell_of_three HB9.out
          refine bodyPost_ret (v := .tuple #[.agg zeroB, .int .i64 ((30 : Nat) : Int)]) (by simp [zeroB, results, Tryd.results15, go_sem, t0, t1, t2]) rfl (err_ret (HF1.out.trans HF9.out (fun i hi e => by have := HBW.out; omega)) HR1.out)
end Go.Proofs.YtpfajkkjnobdlaaDoor
