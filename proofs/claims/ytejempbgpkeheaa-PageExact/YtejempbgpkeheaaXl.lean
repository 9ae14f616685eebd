/- PageExact: the program's page and the document's, side by side. -/
import Derived.Test.YtejempbgpkeheaaXc
import Derived.Test.YtejempbgpkeheaaMay
import Derived.Deep.LoopGhost
import Derived.Deep.CutRange
import Derived.Deep.CutBlock
import Derived.Deep.Light
import Derived.Deep.RegionHeld3
namespace Go.Proofs.Ytejempbgpkeheaa
open Go.RowKit

theorem mul60 {W H : Nat} (h1 : 1 ≤ W) (h2 : 1 ≤ H) (h3 : W * H ≤ 1048576) : wrap64 (((W : Int) + 64) * (H : Int)) = (((W + 64) * H : Nat) : Int) := by
  obtain ⟨f1, f2, _⟩ := size_facts h1 h2 h3
  have e : ((W : Int) + 64) * (H : Int) = (((W + 64) * H : Nat) : Int) := by push_cast; rfl
  have h4 : (W + 64) * H = W * H + 64 * H := Nat.add_mul _ _ _
  rw [e, wr64 (by omega)]
theorem words60 {W H : Nat} (h : (W + 64) * H ≤ 60000) : H * stride W ≤ 1000 := by
  have h1 : stride W * 64 ≤ W + 64 := by unfold stride; omega
  have h2 : H * (stride W * 64) ≤ H * (W + 64) := Nat.mul_le_mul_left _ h1
  rw [Nat.mul_comm H (W + 64), ← Nat.mul_assoc] at h2
  omega
theorem sheet_out {W H d s : Int} (h : sheetOK W H d s = true) : ∃ W' H' d' s' : Nat, W = W' ∧ H = H' ∧ d = d' ∧ s = s' ∧ 1 ≤ W' ∧ 1 ≤ H' ∧ W' * H' ≤ 1048576 ∧ d' ≤ 1 ∧ s' ≤ 1048576 := by
  unfold sheetOK at h
  simp only [Bool.and_eq_true] at h
  obtain ⟨⟨h1, h2⟩, h3⟩ := h
  obtain ⟨W', H', rfl, rfl, a, b, c⟩ := size_out h1
  have e2 := of_decide_eq_true h2
  have e3 := of_decide_eq_true h3
  exact ⟨W', H', d.toNat, s.toNat, rfl, rfl, by omega, by omega, a, b, c, by omega, by omega⟩

theorem quo_in {H s : Nat} (h : H ≤ 1048576) : IntKind.i64.wrap ((H : Int) / (s : Int)) = (H : Int) / (s : Int) := by
  obtain ⟨q, hq⟩ : ∃ q : Nat, (H : Int) / (s : Int) = (q : Int) := ⟨H / s, by simp⟩
  have h2 : H / s ≤ H := Nat.div_le_self _ _
  have h3 : (q : Int) = ((H / s : Nat) : Int) := by rw [← hq]; simp
  rw [hq, IntKind.wrap_i64]
  generalize H / s = z at *
  omega

theorem st_min {j s H gk n' : Nat} (h : j + gk = H) (h2 : n' = min (j + s) H) (h3 : j < H) (h4 : s ≠ 0) : n' + (H - n') = H ∧ H - n' < gk := by omega
theorem last_a {j s H : Nat} (h : (j : Int) + (s : Int) ≤ (H : Int)) : (j : Int) + (s : Int) - 1 = lastRow j s H := by unfold lastRow; omega
theorem last_b {j s H : Nat} (h : ¬ (j : Int) + (s : Int) ≤ (H : Int)) : (H : Int) - 1 = lastRow j s H := by unfold lastRow; omega
theorem stripe_last {j s H : Nat} (h3 : j < H) (h4 : s ≠ 0) : stripeOK j s H (lastRow j s H) = true := by unfold stripeOK; exact decide_eq_true ⟨h4, by omega, rfl⟩

set_option maxRecDepth 100000 in
set_option linter.unusedSimpArgs false in
set_option maxHeartbeats 16000000 in
theorem exact_any (W0 H0 D0 S0 : Int) (ao : Option Addr) (ln lc : Nat) (A : Nat → Th) (bo : Option Addr) (m cb : Nat) (D : Nat → Bool) (w : World) (hb : I64 W0 ∧ I64 H0 ∧ I64 D0 ∧ I64 S0) (h : ThsAt w ao ln A) (hdu : DueAt w bo m D) :
    Calls Try.prog 3 #[.agg #[.int .i64 W0, .int .i64 H0, .int .i64 D0, .int .i64 S0, .slice ao ln lc, .slice bo m cb]] w fun e w' => e = .returned (.bool true) ∧ Fr (fun _ => False) w w' := by
  have hl := h.len
  have hm := hdu.1
  have HC : Hid (∀ j, j < ln → ∃ b off av cv, ao = some ⟨b, off, none⟩ ∧ ThOK w (A j) ∧ (A j).v = .slice av (A j).l.length cv ∧ ∀ w', Fr (fun _ => False) w w' → w'.cell? ⟨b, off + j * 7, none⟩ = some (.int .i64 (A j).k) ∧ w'.cell? ⟨b, off + j * 7 + 1, none⟩ = some (.int .i64 (A j).x) ∧ w'.cell? ⟨b, off + j * 7 + 2, none⟩ = some (.int .i64 (A j).y) ∧ w'.cell? ⟨b, off + j * 7 + 3, none⟩ = some (.int .i64 (A j).op) ∧ w'.cell? ⟨b, off + j * 7 + 4, none⟩ = some (.int .i64 (A j).a) ∧ w'.cell? ⟨b, off + j * 7 + 5, none⟩ = some (.int .i64 (A j).b) ∧ w'.cell? ⟨b, off + j * 7 + 6, none⟩ = some (A j).v) := fun j hj => by
    have hok := h.ok j hj
    obtain ⟨av, cv, e1, _, _⟩ := hok.hv
    obtain ⟨b, off, e2, hc⟩ := h.cells (Nat.lt_of_le_of_lt (Nat.zero_le _) hj)
    obtain ⟨k0, k1, k2, k3, k4, k5, k6⟩ := hc j hj
    exact ⟨b, off, av, cv, e2, hok, e1, fun w' f => ⟨by rw [f.cell (seen_lt k0) (fun h => h)]; exact k0, by rw [f.cell (seen_lt k1) (fun h => h)]; exact k1, by rw [f.cell (seen_lt k2) (fun h => h)]; exact k2, by rw [f.cell (seen_lt k3) (fun h => h)]; exact k3, by rw [f.cell (seen_lt k4) (fun h => h)]; exact k4, by rw [f.cell (seen_lt k5) (fun h => h)]; exact k5, by rw [f.cell (seen_lt k6) (fun h => h)]; exact k6⟩⟩
  have HD : Hid (∀ j, j < m → ∃ b off, bo = some ⟨b, off, none⟩ ∧ ∀ w', Fr (fun _ => False) w w' → w'.cell? ⟨b, off + j, none⟩ = some (.bool (D j))) := fun j hj => by
    obtain ⟨b, off, e, hc⟩ := hdu.2 (Nat.lt_of_le_of_lt (Nat.zero_le _) hj)
    exact ⟨b, off, e, fun w' f => by rw [f.cell (seen_lt (hc j hj)) (fun h => h)]; exact hc j hj⟩
  clear h hdu
  have HWK : Hid (∀ w', Calls Try.prog 8 #[] w' fun e w'' => e = .returned (.bool true) ∧ Fr (fun _ => False) w' w'') := wakes_any
  have HB0 : Hid ((w.alloc (.cells #[.int .i64 W0, .int .i64 H0, .int .i64 D0, .int .i64 S0, .slice ao ln lc, .slice bo m cb] 27)).heap[w.heap.size]? = some (.cells #[.int .i64 W0, .int .i64 H0, .int .i64 D0, .int .i64 S0, .slice ao ln lc, .slice bo m cb] 27 (0, 0))) := six_new w _ _ _ _ _ _
  have HW0 : Hid (Fr (fun _ => False) w (w.alloc (.cells #[.int .i64 W0, .int .i64 H0, .int .i64 D0, .int .i64 S0, .slice ao ln lc, .slice bo m cb] 27))) := (Fr.refl _ _).alloc _
  have HMS : Hid (∀ w' : World, Calls Try.prog 7 #[.agg #[.int .i64 W0, .int .i64 H0, .int .i64 D0, .int .i64 S0]] w' fun e w'' => e = .returned (.bool (sheetOK W0 H0 D0 S0)) ∧ Fr (fun _ => False) w' w'') := fun w' => rSheet_any W0 H0 D0 S0 w' hb.1 hb.2.1
  cases hok : sheetOK W0 H0 D0 S0 with
  | false =>
    have HNW : Hid (∀ w' : World, Calls Try.prog 6 #[.agg #[.int .i64 W0, .int .i64 H0, .int .i64 D0, .int .i64 S0]] w' fun e w'' => e = .returned (.tuple #[.pointer none, .int .i64 150]) ∧ Fr (fun _ => False) w' w'') := fun w' => pnew_bad W0 H0 D0 S0 w' hb.1 hb.2.1 hok
    rw [hok] at HMS
    clear hok hb
    go_enter Try.func3, Try.ntmps3
    go_upto_region 1 with (fail)
    generalize w.alloc (.cells #[.int .i64 W0, .int .i64 H0, .int .i64 D0, .int .i64 S0, .slice ao ln lc, .slice bo m cb] 27) = w1 at *
    obtain ⟨c0, c1, c2, c3, c4, c5, -⟩ := cell_of_six HB0.out
    go_wp2_with fail
    refine (HNW.out _).mono ?_
    rintro e w2 ⟨rfl, hf2⟩
    obtain ⟨c0, c1, c2, c3, c4, c5, -⟩ := cell_of_six (blk_kept HB0.out hf2 (fun h => h))
    have HF2 : Hid (Fr (fun _ => False) w w2) := HW0.out.trans hf2 (fun _ _ h => h)
    clear hf2
    go_wp2_with fail
    refine (HMS.out _).mono ?_
    rintro e w3 ⟨rfl, hf3⟩
    have HF3 : Hid (Fr (fun _ => False) w w3) := HF2.out.trans hf3 (fun _ _ h => h)
    clear hf3
    go_wp2_with fail
    refine (HWK.out _).mono ?_
    rintro e w4 ⟨rfl, hf4⟩
    have HF4 : Hid (Fr (fun _ => False) w w4) := HF3.out.trans hf4 (fun _ _ h => h)
    clear hf4
    go_wp2_with fail
    go_ret
    exact ⟨rfl, HF4.out⟩
  | true =>
    obtain ⟨W, H, d, s, rfl, rfl, rfl, rfl, hW1, hH1, hWH, hd1, hs1⟩ := sheet_out hok
    rw [hok] at HMS
    clear hok hb
    have HSZ : Hid (1 ≤ W ∧ 1 ≤ H ∧ W * H ≤ 1048576 ∧ d ≤ 1 ∧ s ≤ 1048576) := ⟨hW1, hH1, hWH, hd1, hs1⟩
    have HNW : Hid (∀ w' : World, Calls Try.prog 6 #[.agg #[.int .i64 W, .int .i64 H, .int .i64 d, .int .i64 s]] w' fun e w'' => ∃ p b g cap, e = .returned (.tuple #[.pointer (some ⟨p, 0, none⟩), .int .i64 0]) ∧ PgAt w'' p b g cap W H d s 0 (fun _ _ => decide (d = 1)) ∧ Fr (fun _ => False) w' w'' ∧ w'.heap.size ≤ p ∧ w'.heap.size ≤ b ∧ w'.heap.size ≤ g) := fun w' => pnew_ok W H d s w' HSZ.out.1 HSZ.out.2.1 HSZ.out.2.2.1 HSZ.out.2.2.2.1 HSZ.out.2.2.2.2
    have HRN : Hid (∀ w' : World, Calls Try.prog 9 #[.agg #[.int .i64 W, .int .i64 H, .int .i64 d, .int .i64 s]] w' (RnPost w' W H d s)) := fun w' => rnew_ok W H d s w' HSZ.out.1 HSZ.out.2.1 HSZ.out.2.2.1 HSZ.out.2.2.2.1 HSZ.out.2.2.2.2
    have hmul := mul60 hW1 hH1 hWH
    obtain ⟨z1, z2, -⟩ := size_facts hW1 hH1 hWH
    obtain ⟨ar, har⟩ : ∃ ar, ar = (W + 64) * H := ⟨_, rfl⟩
    rw [← har] at hmul
    have HAR : Hid (ar = (W + 64) * H) := har
    clear har hW1 hH1 hWH hd1 hs1
    go_enter Try.func3, Try.ntmps3
    go_upto_region 1 with (fail)
    have HSC : Hid (w.heap.size < (w.alloc (.cells #[.int .i64 W, .int .i64 H, .int .i64 d, .int .i64 s, .slice ao ln lc, .slice bo m cb] 27)).heap.size) := lt_of_block HB0.out
    generalize w.alloc (.cells #[.int .i64 W, .int .i64 H, .int .i64 d, .int .i64 s, .slice ao ln lc, .slice bo m cb] 27) = w1 at *
    obtain ⟨sc, hsc⟩ : ∃ sc, sc = w.heap.size := ⟨_, rfl⟩
    have HSCQ : Hid (sc = w.heap.size) := hsc
    rw [← hsc] at HB0 HSC ⊢
    clear hsc
    obtain ⟨c0, c1, c2, c3, c4, c5, -⟩ := cell_of_six HB0.out
    go_wp2_with fail
    refine (HNW.out _).mono ?_
    rintro e w2 ⟨p, b, g, cap, rfl, hp2, hf2, hp, hbb, hg⟩
    have HP2 : Hid (PgAt w2 p b g cap W H d s 0 (fun _ _ => decide (d = 1))) := hp2
    have HPL : Hid (w1.heap.size ≤ p ∧ w1.heap.size ≤ b ∧ w1.heap.size ≤ g ∧ p < w2.heap.size ∧ b < w2.heap.size ∧ g < w2.heap.size ∧ b ≠ p) := ⟨hp, hbb, hg, hp2.lt, hp2.map.lt, hp2.map.glt, fun e => hp2.pb e.symm⟩
    have HB2 : Hid (w2.heap[sc]? = some (.cells #[.int .i64 W, .int .i64 H, .int .i64 d, .int .i64 s, .slice ao ln lc, .slice bo m cb] 27 (0, 0))) := blk_kept HB0.out hf2 (fun h => h)
    have HF2 : Hid (Fr (fun _ => False) w w2) := HW0.out.trans hf2 (fun _ _ h => h)
    clear hp2 hf2 hp hbb hg HB0 HNW c0 c1 c2 c3 c4 c5
    obtain ⟨c0, c1, c2, c3, c4, c5, -⟩ := cell_of_six HB2.out
    go_wp2_with fail
    refine (HMS.out _).mono ?_
    rintro e w3 ⟨rfl, hf3⟩
    have HP3 : Hid (PgAt w3 p b g cap W H d s 0 (fun _ _ => decide (d = 1))) := HP2.out.same hf3
    have HB3 : Hid (w3.heap[sc]? = some (.cells #[.int .i64 W, .int .i64 H, .int .i64 d, .int .i64 s, .slice ao ln lc, .slice bo m cb] 27 (0, 0))) := blk_kept HB2.out hf3 (fun h => h)
    have HF3 : Hid (Fr (fun _ => False) w w3) := HF2.out.trans hf3 (fun _ _ h => h)
    have HS23 : Hid (w2.heap.size ≤ w3.heap.size) := hf3.size
    clear hf3 HMS HP2 HB2 HF2 c0 c1 c2 c3 c4 c5
    obtain ⟨c0, c1, c2, c3, c4, c5, -⟩ := cell_of_six HB3.out
    by_cases g0 : 60000 < ar
    · have d0 : decide ((60000 : Int) < ((ar : Nat) : Int)) = true := decide_eq_true (by omega)
      have d0' : decide (60000 < ar) = true := decide_eq_true g0
      go_wp2_with fail
      refine (HWK.out _).mono ?_
      rintro e w4 ⟨rfl, hf4⟩
      have HF4 : Hid (Fr (fun _ => False) w w4) := HF3.out.trans hf4 (fun _ _ h => h)
      clear hf4
      go_wp2_with fail
      go_ret
      exact ⟨rfl, HF4.out⟩
    · have d0 : decide ((60000 : Int) < ((ar : Nat) : Int)) = false := decide_eq_false (by omega)
      have d0' : decide (60000 < ar) = false := decide_eq_false g0
      have HNL : Hid (H * stride W ≤ 1000) := words60 (by rw [← HAR.out]; omega)
      clear g0
      go_wp2_with fail
      refine (HRN.out _).mono ?_
      rintro e w4 ⟨r, gr, N, rfl, hr4, hf4, hrl, hgrl⟩
      have HE4 : Hid (EX w w4 w4.heap.size sc p b g cap r gr N W H d s (.slice ao ln lc) (.slice bo m cb) 0 false (fun _ _ => decide (d = 1)) 0 false (fun _ _ => decide (d = 1))) := by
        have q := HPL.out
        have q2 := HS23.out
        have q3 := HSCQ.out
        have q4 := HSC.out
        have l1 := hr4.lt
        have l2 := hr4.row.lt
        have l3 := hf4.size
        exact ⟨blk_kept HB3.out hf4 (fun h => h), Or.inl ⟨rfl, HP3.out.same hf4⟩, hr4, HF3.out.trans hf4 (fun _ _ h => h), Nat.le_refl _, ⟨by omega, by omega, by omega, by omega, by omega⟩, ⟨by omega, by omega, by omega, by omega, l1, l2⟩, ⟨by omega, by omega, by omega, by omega⟩, ⟨by omega, by omega, by omega, by omega, by omega, by omega⟩, q.2.2.2.2.2.2⟩
      have HN1 : Hid (N ≤ 1000) := by show _ ≤ _; rw [hr4.row.1]; exact HNL.out
      clear hr4 hf4 hrl hgrl HP3 HB3 HF3 HS23 HPL HSC HSCQ HRN HAR HNL HW0 hmul d0 d0' c0 c1 c2 c3 c4 c5
      generalize w4.heap.size = M at *
      go_upto_region 9 with (fail)
      go_upto_block 0 with (fail)
      go_cut [2] from 58 to 200 (fun _ wc => ∃ n dn P, EX w wc M sc p b g cap r gr N W H d s (.slice ao ln lc) (.slice bo m cb) n dn P n dn P)
      case first =>
        go_wp2_with fail
        go_loopw [6] (fun i wr => ∃ (k n : Nat) (dn : Bool) (P : Nat → Nat → Bool), k ≤ ln ∧ k ≤ 30 ∧ i = .int .i64 (k : Int) ∧ Hid (EX w wr M sc p b g cap r gr N W H d s (.slice ao ln lc) (.slice bo m cb) n dn P n dn P)) (fun i _ => (30 - (intOf i).toNat))
        case atStart => exact ⟨0, 0, false, _, by omega, by omega, rfl, HE4.out⟩
        case round =>
          obtain ⟨k, n, dn, P, hk, hk30, rfl, HE⟩ := hrel
          obtain ⟨c0, c1, c2, c3, c4, c5⟩ := HE.out.cells
          by_cases hlt : k < ln
          · have hd : decide ((k : Int) < (ln : Int)) = true := decide_eq_true (by omega)
            by_cases hl30 : k < 30
            · have hd2 : decide ((k : Int) < 30) = true := decide_eq_true (by omega)
              obtain ⟨tb, toff, av, cv, rfl, hok, hv, hc⟩ := HC.out k hlt
              have HOK : Hid (ThOK w (A k)) := hok
              have HV : Hid ((A k).v = .slice av (A k).l.length cv) := hv
              obtain ⟨t0, t1, t2, t3, t4, t5, t6⟩ := hc wr HE.out.fx
              rw [hv] at t6
              clear hok hv hc
              generalize A k = t at HOK HV t0 t1 t2 t3 t4 t5 t6
              obtain ⟨kk, x, y, op, a, c, v, l⟩ := t
              try simp only at HOK HV t0 t1 t2 t3 t4 t5 t6
              go_upto_region 13 with (fail)
              have HO5 : Hid ((wr.alloc (.cells #[.int .i64 kk, .int .i64 x, .int .i64 y, .int .i64 op, .int .i64 a, .int .i64 c, .slice av l.length cv] 40)).heap[wr.heap.size]? = some (.cells #[.int .i64 kk, .int .i64 x, .int .i64 y, .int .i64 op, .int .i64 a, .int .i64 c, .slice av l.length cv] 40 (0, 0))) := seven_new wr _ _ _ _ _ _ _
              have HE5 := (show Hid _ from HE.out.same ((Fr.refl (fun _ => False) wr).alloc (.cells #[.int .i64 kk, .int .i64 x, .int .i64 y, .int .i64 op, .int .i64 a, .int .i64 c, .slice av l.length cv] 40)))
              have HOM : Hid (M ≤ wr.heap.size) := HE.out.mw
              generalize wr.alloc (.cells #[.int .i64 kk, .int .i64 x, .int .i64 y, .int .i64 op, .int .i64 a, .int .i64 c, .slice av l.length cv] 40) = w5 at *
              generalize wr.heap.size = o at *
              clear t0 t1 t2 t3 t4 t5 t6 c0 c1 c2 c3 c4 c5 HE
              obtain ⟨o0, o1, o2, o3, o4, o5, o6, -⟩ := cell_of_seven HO5.out
              obtain ⟨c0, c1, c2, c3, c4, c5⟩ := HE5.out.cells
              have hwk : IntKind.i64.wrap ((k : Int) + 1) = (k : Int) + 1 := by rw [IntKind.wrap_i64]; omega
              by_cases hl375 : 375 < l.length
              · have hd3 : decide ((375 : Int) < (l.length : Int)) = true := decide_eq_true (by omega)
                go_wp2_with fail
                go_roundw
                case rel => exact ⟨k + 1, n, dn, P, by omega, by omega, congrArg (Value.int .i64) (by omega), HE5.out⟩
                case measure => simp [intOf]; omega
              · have hd3 : decide ((375 : Int) < (l.length : Int)) = false := decide_eq_false (by omega)
                have HLL : Hid (l.length ≤ 375) := by show _ ≤ _; omega
                clear hl375
                go_upto_block 2 with (fail)
                go_cut [6] from 58 to 200 (fun u6 wc => u6 = .int .i64 (k : Int) ∧ ∃ n' dn' P', EX w wc M sc p b g cap r gr N W H d s (.slice (some ⟨tb, toff, none⟩) ln lc) (.slice bo m cb) n' dn' P' n' dn' P')
                case first =>
                  by_cases hk0 : kk = 0
                  · as_aux_lemma =>
                      subst hk0
                      have hvv := HV.out
                      try simp only at hvv
                      subst hvv
                      clear HV
                      go_upto_region 22 with (fail)
                      go_cut [118] from 58 to 200 (fun u wc => (∃ bb, u = .bool bb) ∧ wc = w5)
                      case first =>
                        by_cases km : k < m
                        · have hkm : decide ((k : Int) < (m : Int)) = true := decide_eq_true (by omega)
                          obtain ⟨db, doff, rfl, hdc⟩ := HD.out k km
                          have dd := hdc w5 HE5.out.fx
                          go_wp2_with fail
                          go_meet
                          exact ⟨⟨_, rfl⟩, rfl⟩
                        · have hkm : decide ((k : Int) < (m : Int)) = false := decide_eq_false (by omega)
                          go_wp2_with fail
                          go_meet
                          exact ⟨⟨_, rfl⟩, rfl⟩
                      obtain ⟨⟨bb, rfl⟩, rfl⟩ := hcut
                      go_upto_if 118 with (fail)
                      obtain ⟨k0, k1, k2, k3, k4⟩ := HE5.out.rcells
                      go_cut [8] from 58 to 200 (fun u wc' => (∃ y', u = .int .i64 y' ∧ I64 y') ∧ wc' = wc)
                      case first =>
                        cases bb
                        · go_wp2_with fail
                          go_meet
                          exact ⟨⟨_, rfl, HOK.out.hy⟩, rfl⟩
                        · go_wp2_with fail
                          go_meet
                          have hbn := HE5.out.bounds
                          exact ⟨⟨_, rfl, by constructor <;> omega⟩, rfl⟩
                      obtain ⟨⟨y', rfl, hy'⟩, rfl⟩ := hcut
                      have HY : Hid (I64 y') := hy'
                      clear hy' k0 k1 k2 k3 k4
                      have HSV : Hid (∀ w', Fr (fun _ => False) w w' → Seen w' (.slice av l.length cv) l) := fun w' f => HOK.out.hv.kept f
                      have HLD : Hid (Calls Try.prog 10 #[.agg #[.int .i64 a, .int .i64 c, .slice av l.length cv]] wc fun e w' => ∃ g, e = .returned (.agg #[.int .i64 a, .int .i64 c, .slice (some ⟨g, 0, none⟩) l.length (l.length + 7)]) ∧ Lent w' g l ∧ wc.heap.size ≤ g ∧ Fr (fun _ => False) wc w') := lendB_any a c (.slice av l.length cv) l wc (HSV.out wc HE5.out.fx) HOK.out.hn (by have := HLL.out; omega)
                      go_wp2_with fail
                      refine Calls.mono HLD.out ?_
                      rintro e w6 ⟨gl, rfl, hle, hgl, hf6⟩
                      have HE6 := (show Hid _ from HE5.out.same hf6)
                      have HO6 : Hid (w6.heap[o]? = some (.cells #[.int .i64 0, .int .i64 x, .int .i64 y, .int .i64 op, .int .i64 a, .int .i64 c, .slice av l.length cv] 40 (0, 0))) := blk_kept HO5.out hf6 (fun h => h)
                      have HLE6 : Hid (Lent w6 gl l) := hle
                      have HGL : Hid (M ≤ gl ∧ gl < w6.heap.size ∧ o < gl) := ⟨Nat.le_trans HE5.out.mw hgl, hle.lt, Nat.lt_of_lt_of_le (lt_of_block HO5.out) hgl⟩
                      clear hle hgl hf6 HLD HE5 HO5 o0 o1 o2 o3 o4 o5 o6 c0 c1 c2 c3 c4 c5
                      go_upto_region 25 with (fail)
                      obtain ⟨L7, hL7⟩ : ∃ L7, L7 = l.length + 7 := ⟨_, rfl⟩
                      have HL7 : Hid (L7 = l.length + 7) := hL7
                      rw [← hL7]
                      clear hL7
                      have HQ7 : Hid ((w6.alloc (.cells #[.int .i64 a, .int .i64 c, .slice (some ⟨gl, 0, none⟩) l.length L7] 38)).heap[w6.heap.size]? = some (.cells #[.int .i64 a, .int .i64 c, .slice (some ⟨gl, 0, none⟩) l.length L7] 38 (0, 0))) := three_new w6 _ _ _
                      have HE7 := (show Hid _ from HE6.out.same ((Fr.refl (fun _ => False) w6).alloc (.cells #[.int .i64 a, .int .i64 c, .slice (some ⟨gl, 0, none⟩) l.length L7] 38)))
                      have HLE7 : Hid (Lent (w6.alloc (.cells #[.int .i64 a, .int .i64 c, .slice (some ⟨gl, 0, none⟩) l.length L7] 38)) gl l) := HLE6.out.kept ((Fr.refl (fun _ => False) w6).alloc _) (fun h => h)
                      have HO7 : Hid ((w6.alloc (.cells #[.int .i64 a, .int .i64 c, .slice (some ⟨gl, 0, none⟩) l.length L7] 38)).heap[o]? = some (.cells #[.int .i64 0, .int .i64 x, .int .i64 y, .int .i64 op, .int .i64 a, .int .i64 c, .slice av l.length cv] 40 (0, 0))) := blk_kept HO6.out ((Fr.refl (fun _ => False) w6).alloc _) (fun h => h)
                      have HQN : Hid (M ≤ w6.heap.size ∧ w6.heap.size ≠ gl ∧ o ≠ gl) := ⟨HE6.out.mw, by have := HGL.out; omega, by have := HGL.out; omega⟩
                      generalize w6.alloc (.cells #[.int .i64 a, .int .i64 c, .slice (some ⟨gl, 0, none⟩) l.length L7] 38) = w7 at *
                      generalize w6.heap.size = q9 at *
                      clear HE6 HLE6 HO6
                      obtain ⟨o0, o1, o2, o3, o4, o5, o6, -⟩ := cell_of_seven HO7.out
                      obtain ⟨x0, x1, x2, -⟩ := cell_of_three HQ7.out
                      obtain ⟨C, P', HAQ, HAR⟩ := add_both p b g cap r gr N W H d s n dn P x y' op a c l HOK.out.hx HY.out HOK.out.ho HOK.out.ha HOK.out.hb HOK.out.hlt w (.slice av l.length cv) HOK.out.hv HOK.out.hc
                      have HCL : Hid (CapOK (.slice (some ⟨gl, 0, none⟩) l.length L7)) := fun ao n c e => by
                        simp only [Value.slice.injEq] at e
                        have := HL7.out
                        have := HLL.out
                        unfold maxLen; omega
                      have HSL : Hid (Seen w7 (.slice (some ⟨gl, 0, none⟩) l.length L7) l) := by
                        show Seen _ _ _
                        rw [HL7.out]; exact HLE7.out.seen (by have := HLL.out; omega)
                      have HAQ := (show Hid _ from HAQ w7 _ HE7.out.qx HSL.out HCL.out)
                      have HAR := (show Hid _ from HAR)
                      go_wp2_with fail
                      refine Calls.mono HAQ.out ?_
                      rintro e w8 ⟨rfl, hq8, hf8⟩
                      have hlt6 := HE7.out.lt
                      have HE8 := (show Hid _ from HE7.out.stepq hq8 hf8 (fun k e => Or.inr e))
                      have HO8 : Hid (w8.heap[o]? = some (.cells #[.int .i64 0, .int .i64 x, .int .i64 y, .int .i64 op, .int .i64 a, .int .i64 c, .slice av l.length cv] 40 (0, 0))) := blk_kept HO7.out hf8 (by have := HOM.out; omega)
                      have HQ8 : Hid (w8.heap[q9]? = some (.cells #[.int .i64 a, .int .i64 c, .slice (some ⟨gl, 0, none⟩) l.length L7] 38 (0, 0))) := blk_kept HQ7.out hf8 (by have := HQN.out; omega)
                      have HLE8 : Hid (Lent w8 gl l) := HLE7.out.kept hf8 (by have := HGL.out; omega)
                      clear hlt6 hq8 hf8 HAQ HE7 HO7 HQ7 HLE7 HSL HCL o0 o1 o2 o3 o4 o5 o6 x0 x1 x2
                      have HBK : Hid (Calls Try.prog 12 #[.agg #[.int .i64 a, .int .i64 c, .slice (some ⟨gl, 0, none⟩) l.length L7], .agg #[.int .i64 a, .int .i64 c, .slice av l.length cv]] w8 fun e w' => e = .returned (.bool true) ∧ Fr (fun k => k = gl) w8 w') := by
                        rw [HL7.out]; exact backB_any a c gl (.slice av l.length cv) l w8 (by have := HLL.out; omega) HLE8.out (HSV.out w8 HE8.out.fx)
                      obtain ⟨o0, o1, o2, o3, o4, o5, o6, -⟩ := cell_of_seven HO8.out
                      obtain ⟨x0, x1, x2, -⟩ := cell_of_three HQ8.out
                      go_wp2_with fail
                      refine Calls.mono HBK.out ?_
                      rintro e w9 ⟨rfl, hf9⟩
                      have HE9 := (show Hid _ from HE8.out.new hf9 HGL.out.1)
                      have HO9 : Hid (w9.heap[o]? = some (.cells #[.int .i64 0, .int .i64 x, .int .i64 y, .int .i64 op, .int .i64 a, .int .i64 c, .slice av l.length cv] 40 (0, 0))) := blk_kept HO8.out hf9 (by have := HQN.out; omega)
                      clear hf9 HBK HE8 HO8 HQ8 HLE8 o0 o1 o2 o3 o4 o5 o6 x0 x1 x2
                      obtain ⟨o0, o1, o2, o3, o4, o5, o6, -⟩ := cell_of_seven HO9.out
                      have HAR9 := (show Hid _ from HAR.out w9 _ HE9.out.rx (fun w' f => HSV.out w' (HE9.out.fx.trans f (fun i hi e => by have := HE9.out.lo; omega))) HOK.out.hc)
                      go_wp2_with fail
                      refine Calls.mono HAR9.out ?_
                      rintro e w10 ⟨rfl, hr10, hf10⟩
                      have HE10 := (show Hid _ from HE9.out.stepr hr10 hf10 (fun k e => Or.inr e))
                      clear hr10 hf10 HAR9 HE9 HO9 o0 o1 o2 o3 o4 o5 o6
                      go_wp2_with fail
                      go_meet
                      exact ⟨rfl, n, dn, P', HE10.out⟩
                  · by_cases hk1 : kk = 1
                    · as_aux_lemma =>
                        subst hk1
                        clear hk0
                        go_upto_region 30 with (fail)
                        go_cut [167] from 58 to 200 (fun u wc => (∃ bb, u = .bool bb) ∧ wc = w5)
                        case first =>
                          by_cases km : k < m
                          · have hkm : decide ((k : Int) < (m : Int)) = true := decide_eq_true (by omega)
                            obtain ⟨db, doff, rfl, hdc⟩ := HD.out k km
                            have dd := hdc w5 HE5.out.fx
                            go_wp2_with fail
                            go_meet
                            exact ⟨⟨_, rfl⟩, rfl⟩
                          · have hkm : decide ((k : Int) < (m : Int)) = false := decide_eq_false (by omega)
                            go_wp2_with fail
                            go_meet
                            exact ⟨⟨_, rfl⟩, rfl⟩
                        obtain ⟨⟨bb, rfl⟩, rfl⟩ := hcut
                        go_upto_if 167 with (fail)
                        obtain ⟨k0, k1, k2, k3, k4⟩ := HE5.out.rcells
                        have hbn := HE5.out.bounds
                        obtain ⟨z1, z2, z3⟩ := rs_due (n := n) (s := s) (H := H) (by omega) (by omega) (by omega)
                        clear hbn
                        go_cut [11] from 58 to 200 (fun u wc' => (∃ last, u = .int .i64 last) ∧ Fr (fun _ => False) wc wc')
                        case first =>
                          cases bb
                          · go_wp2_with fail
                            go_meet
                            exact ⟨⟨_, rfl⟩, Fr.refl _ _⟩
                          · go_upto_region 31 with (fail)
                            go_quiet (fail)
                            go_wp2_with fail
                            all_goals
                              go_meet
                              exact ⟨⟨_, rfl⟩, by first | exact (Fr.refl _ _).drewN _ | exact (Fr.refl _ _).drew | exact Fr.refl _ _⟩
                        obtain ⟨⟨last, rfl⟩, hfl⟩ := hcut
                        have HE6 := (show Hid _ from HE5.out.same hfl)
                        clear hfl z1 z2 z3 k0 k1 k2 k3 k4 o0 o1 o2 o3 o4 o5 o6 c0 c1 c2 c3 c4 c5
                        obtain ⟨C, n', HQS, HRS, -⟩ := stripe_both p b g cap r gr N W H d s n dn P last
                        have hbn := HE6.out.bounds
                        have HQS := (show Hid _ from HQS _ HE6.out.qx (by omega) (by omega) (by omega))
                        have HRS := (show Hid _ from HRS)
                        clear hbn
                        go_wp2_with fail
                        refine Calls.mono HQS.out ?_
                        rintro e w7 ⟨rfl, hq7, hf7⟩
                        have HE7 := (show Hid _ from HE6.out.stepq hq7 hf7 (fun k e => Or.inl e))
                        clear hq7 hf7 HQS
                        go_wp2_with fail
                        refine Calls.mono (HRS.out w7 HE7.out.rx) ?_
                        rintro e w8 ⟨rfl, hr8, hf8⟩
                        have HE8 := (show Hid _ from HE7.out.stepr hr8 hf8 (fun k e => Or.inl e))
                        clear hr8 hf8 HRS
                        go_wp2_with fail
                        go_meet
                        exact ⟨rfl, n', dn, P, HE8.out⟩
                    · as_aux_lemma =>
                        have e0 : (kk == 0) = false := by rw [beq_eq_false_iff_ne]; exact hk0
                        have e1 : (kk == 1) = false := by rw [beq_eq_false_iff_ne]; exact hk1
                        have f0 : ((0 : Int) == kk) = false := by rw [beq_eq_false_iff_ne]; exact fun e => hk0 e.symm
                        have f1 : ((1 : Int) == kk) = false := by rw [beq_eq_false_iff_ne]; exact fun e => hk1 e.symm
                        clear hk0 hk1
                        have hbn := HE5.out.bounds
                        obtain ⟨C, ea, ec, el, n', dn', hel, hn', HQE, HRE⟩ := end_both p b g cap r gr N W H d s n dn P HN1.out hbn.2.2.2.2.2.2.2 hbn.2.2.2.2.2.1
                        have HQE := (show Hid _ from HQE w5 HE5.out.qx)
                        have HRE := (show Hid _ from HRE)
                        have HEL : Hid (el.length ≤ 1000) := hel
                        clear hbn hel
                        go_wp2_with fail
                        refine Calls.mono HQE.out ?_
                        rintro e w6 ⟨v1, rfl, hv1, hq6, hf6⟩
                        obtain ⟨a1, c1, rfl⟩ : ∃ a1 c1, v1 = .slice a1 el.length c1 := by
                          rcases hv1.2 with ⟨e, e2⟩ | ⟨g1, cp, cu, e, _⟩
                          · exact ⟨none, 0, by rw [e, e2]⟩
                          · exact ⟨_, _, e⟩
                        have HE6 := (show Hid _ from HE5.out.stepq hq6 hf6 (fun k e => Or.inl e))
                        have HV6 : Hid (w6.ownsRow M 65 1 (.slice a1 el.length c1) el.length (wordCells el)) := ownsRow_base hv1 (fun k e => by have := (hv1.lt k e).1; have := HE5.out.mw; omega)
                        clear hv1 hq6 hf6 HQE
                        go_upto_region 16 with (fail)
                        have HA7 : Hid ((w6.alloc (.cells #[.int .i64 ea, .int .i64 ec, .slice a1 el.length c1] 38)).heap[w6.heap.size]? = some (.cells #[.int .i64 ea, .int .i64 ec, .slice a1 el.length c1] 38 (0, 0))) := three_new w6 _ _ _
                        have HE7 := (show Hid _ from HE6.out.same ((Fr.refl (fun _ => False) w6).alloc (.cells #[.int .i64 ea, .int .i64 ec, .slice a1 el.length c1] 38)))
                        have HV7 : Hid ((w6.alloc (.cells #[.int .i64 ea, .int .i64 ec, .slice a1 el.length c1] 38)).ownsRow M 65 1 (.slice a1 el.length c1) el.length (wordCells el)) := row_kept HV6.out ((Fr.refl (fun _ => False) w6).alloc _) (fun _ _ h => h)
                        have HM6 : Hid (M ≤ w6.heap.size) := HE6.out.mw
                        generalize w6.alloc (.cells #[.int .i64 ea, .int .i64 ec, .slice a1 el.length c1] 38) = w7 at *
                        generalize w6.heap.size = q1 at *
                        clear HE6 HV6
                        go_wp2_with fail
                        refine Calls.mono (HRE.out w7 HE7.out.rx) ?_
                        rintro e w8 ⟨v2, rfl, hv2, hr8, hf8⟩
                        obtain ⟨a2, c2', rfl⟩ : ∃ a2 c2, v2 = .slice a2 el.length c2 := by
                          rcases hv2.2 with ⟨e, e2⟩ | ⟨g1, cp, cu, e, _⟩
                          · exact ⟨none, 0, by rw [e, e2]⟩
                          · exact ⟨_, _, e⟩
                        have HE8 := (show Hid _ from HE7.out.stepr hr8 hf8 (fun k e => Or.inl e))
                        have hrl := HE7.out.lt.2.2.2.2.1
                        have HA8 : Hid (w8.heap[q1]? = some (.cells #[.int .i64 ea, .int .i64 ec, .slice a1 el.length c1] 38 (0, 0))) := blk_kept HA7.out hf8 (by have := HM6.out; omega)
                        have HV8 : Hid (w8.ownsRow M 65 1 (.slice a1 el.length c1) el.length (wordCells el)) := row_kept HV7.out hf8 (fun k e e2 => by have := (HV7.out.lt k e).1; omega)
                        have HU8 : Hid (w8.ownsRow M 65 1 (.slice a2 el.length c2') el.length (wordCells el)) := ownsRow_base hv2 (fun k e => by have := (hv2.lt k e).1; have := HE7.out.mw; omega)
                        clear hv2 hr8 hf8 hrl HA7 HE7 HV7 HRE
                        go_upto_region 17 with (fail)
                        have HA9 : Hid ((w8.alloc (.cells #[.int .i64 ea, .int .i64 ec, .slice a2 el.length c2'] 38)).heap[q1]? = some (.cells #[.int .i64 ea, .int .i64 ec, .slice a1 el.length c1] 38 (0, 0))) := blk_kept HA8.out ((Fr.refl (fun _ => False) w8).alloc _) (fun h => h)
                        have HB9 : Hid ((w8.alloc (.cells #[.int .i64 ea, .int .i64 ec, .slice a2 el.length c2'] 38)).heap[w8.heap.size]? = some (.cells #[.int .i64 ea, .int .i64 ec, .slice a2 el.length c2'] 38 (0, 0))) := three_new w8 _ _ _
                        have HE9 := (show Hid _ from HE8.out.same ((Fr.refl (fun _ => False) w8).alloc (.cells #[.int .i64 ea, .int .i64 ec, .slice a2 el.length c2'] 38)))
                        have HV9 : Hid ((w8.alloc (.cells #[.int .i64 ea, .int .i64 ec, .slice a2 el.length c2'] 38)).ownsRow M 65 1 (.slice a1 el.length c1) el.length (wordCells el)) := row_kept HV8.out ((Fr.refl (fun _ => False) w8).alloc _) (fun _ _ h => h)
                        have HU9 : Hid ((w8.alloc (.cells #[.int .i64 ea, .int .i64 ec, .slice a2 el.length c2'] 38)).ownsRow M 65 1 (.slice a2 el.length c2') el.length (wordCells el)) := row_kept HU8.out ((Fr.refl (fun _ => False) w8).alloc _) (fun _ _ h => h)
                        generalize w8.alloc (.cells #[.int .i64 ea, .int .i64 ec, .slice a2 el.length c2'] 38) = w9 at *
                        generalize w8.heap.size = q2 at *
                        clear HA8 HE8 HV8 HU8
                        have HQ9 : Hid (Calls Try.prog 18 #[.agg #[.int .i64 ea, .int .i64 ec, .slice a1 el.length c1], .agg #[.int .i64 ea, .int .i64 ec, .slice a2 el.length c2']] w9 fun e w' => e = .returned (.bool true) ∧ Fr (fun _ => False) w9 w') := eqBitmap_int ea ec _ _ el w9 (Seen.of_row HV9.out (by have := HEL.out; omega)) (Seen.of_row HU9.out (by have := HEL.out; omega))
                        obtain ⟨x0, x1, x2, -⟩ := cell_of_three HA9.out
                        obtain ⟨y0, y1, y2, -⟩ := cell_of_three HB9.out
                        go_wp2_with fail
                        refine Calls.mono HQ9.out ?_
                        rintro e w10 ⟨rfl, hf10⟩
                        have HE10 := (show Hid _ from HE9.out.same hf10)
                        have HV10 : Hid (w10.ownsRow M 65 1 (.slice a1 el.length c1) el.length (wordCells el)) := row_kept HV9.out hf10 (fun _ _ h => h)
                        have HA10 : Hid (w10.heap[q1]? = some (.cells #[.int .i64 ea, .int .i64 ec, .slice a1 el.length c1] 38 (0, 0))) := blk_kept HA9.out hf10 (fun h => h)
                        clear x0 x1 x2 y0 y1 y2 hf10 HA9 HB9 HE9 HV9 HU9 HQ9
                        obtain ⟨x0, x1, x2, -⟩ := cell_of_three HA10.out
                        have HW10 : Hid (Calls Try.prog 19 #[.slice a1 el.length c1] w10 fun e w' => e = .returned (.tuple #[]) ∧ Fr (fun k => M ≤ k) w10 w') := overW_any M el.length c1 a1 _ w10 (by have := HEL.out; omega) HV10.out
                        go_wp2_with fail
                        refine Calls.mono HW10.out ?_
                        rintro e w11 ⟨rfl, hf11⟩
                        have HE11 := (show Hid _ from HE10.out.news hf11)
                        clear x0 x1 x2 hf11 HA10 HE10 HV10 HW10
                        go_wp2_with fail
                        go_meet
                        exact ⟨rfl, n', dn', P, HE11.out⟩
                obtain ⟨rfl, n', dn', P', hes⟩ := hcut
                have HEN := (show Hid _ from hes)
                clear hes
                obtain ⟨t9, hpb⟩ := HEN.out.qx.blk
                have HNX : Hid (∀ q, Calls Try.prog 20 #[.pointer (some ⟨p, 0, none⟩)] (wc.drewN q) fun e w' => e = .returned (.int .i64 (n' : Int)) ∧ w' = wc.drewN q) := fun q => next_any (w := wc.drewN q) hpb
                obtain ⟨k0, k1, k2, k3, k4⟩ := HEN.out.rcells
                clear hpb
                go_upto_region 36 with (fail)
                go_quiet (first | (go_at_call 20; refine Calls.quiet_of_same (HNX.out _)))
                go_wp2_with fail
                go_roundw
                case rel => exact ⟨k + 1, n', dn', P', by omega, by omega, congrArg (Value.int .i64) (by omega), by first | exact HEN.out.same ((Fr.refl _ _).drewN _) | exact HEN.out.same (Fr.refl _ _).drew⟩
                case measure => simp [intOf]; omega
            · have hd2 : decide ((k : Int) < 30) = false := decide_eq_false (by omega)
              go_wp2_with fail
              go_meet
              exact ⟨n, dn, P, HE.out⟩
          · have hd : decide ((k : Int) < (ln : Int)) = false := decide_eq_false (by omega)
            go_wp2_with fail
            go_meet
            exact ⟨n, dn, P, HE.out⟩
      case rest =>
        obtain ⟨n, dn, P, he⟩ := hcut
        have HE0 := (show Hid _ from he)
        clear he HE4
        go_upto_block 3 with (fail)
        go_cut [2] from 201 to 274 (fun _ wd => ∃ n dn P, EX w wd M sc p b g cap r gr N W H d s (.slice ao ln lc) (.slice bo m cb) n dn P n dn P)
        case first =>
          as_aux_lemma =>
            have hnl := HE0.out.rx.nl
            go_wp2_with fail
            go_loopg [16] (H - n) (fun q _ wr => ∃ (n' : Nat) (dn' : Bool) (P' : Nat → Nat → Bool), n' + q = H ∧ Hid (EX w wr M sc p b g cap r gr N W H d s (.slice ao ln lc) (.slice bo m cb) n' dn' P' n' dn' P'))
            case atStart => exact ⟨n, dn, P, by omega, HE0.out⟩
            case round =>
              obtain ⟨j, dj, Pj, hjq, HEJ⟩ := hrel
              have HJQ : Hid (j + gk = H) := hjq
              obtain ⟨k0, k1, k2, k3, k4⟩ := HEJ.out.rcells
              have hbn := HEJ.out.bounds
              obtain ⟨y1, y2, y3⟩ := rs_due (n := j) (s := s) (H := H) (by omega) (by omega) (by omega)
              have HBN : Hid (1 ≤ W ∧ 1 ≤ H ∧ W * H ≤ 1048576 ∧ W ≤ 1048576 ∧ H ≤ 1048576 ∧ j ≤ H ∧ s ≤ 1048576 ∧ N = H * stride W) := hbn
              have hqw := quo_in (H := H) (s := s) (by omega)
              clear hjq hbn hnl
              by_cases s0 : s = 0
              · have d1 : decide ((0 : Int) < (s : Int)) = false := decide_eq_false (by omega)
                go_upto_region 38 with (fail)
                go_quiet (fail)
                go_wp2_with fail
                go_meet
                exact ⟨j, dj, Pj, by first | exact HEJ.out.same ((Fr.refl _ _).drewN _) | exact HEJ.out.same (Fr.refl _ _).drew⟩
              · have d1 : decide ((0 : Int) < (s : Int)) = true := decide_eq_true (by omega)
                have d1' : decide (0 < s) = true := decide_eq_true (by omega)
                have d1a : (0 : Int) < (s : Int) := by omega
                have n0 : ¬ (s : Int) = 0 := by omega
                have n1 : ((s : Int) == 0) = false := by rw [beq_eq_false_iff_ne]; omega
                cases dj
                · by_cases hjH : j < H
                  · have d3 : decide ((j : Int) < (H : Int)) = true := decide_eq_true (by omega)
                    have d3' : decide (j < H) = true := decide_eq_true hjH
                    by_cases hq : (H : Int) / (s : Int) < 200
                    · have d4 : decide ((H : Int) / (s : Int) < 200) = true := decide_eq_true hq
                      go_upto_region 38 with (fail)
                      go_quiet (fail)
                      go_upto_region 39 with (fail)
                      go_quiet (fail)
                      have HS0 : Hid (s ≠ 0 ∧ j < H) := ⟨s0, hjH⟩
                      clear d1 d1' d1a n0 n1 d3 d3' d4 hq hqw s0 hjH
                      go_upto_if 258 with (fail)
                      go_cut [16] from 201 to 274 (fun u wd' => u = .int .i64 (lastRow j s H) ∧ Fr (fun _ => False) wr wd')
                      case first =>
                        by_cases hle : (j : Int) + (s : Int) ≤ (H : Int)
                        · have hla := last_a hle
                          go_wp2_with fail
                          go_meet
                          exact ⟨congrArg (Value.int .i64) (by first | exact hla | rfl | (rw [y2]; exact hla)), by first | exact (Fr.refl _ _).drewN _ | exact (Fr.refl _ _).drew.drew | exact (Fr.refl _ _).drew | exact ((Fr.refl _ _).drewN _).drewN _ | exact Fr.refl _ _⟩
                        · have hla := last_b hle
                          go_wp2_with fail
                          go_meet
                          exact ⟨congrArg (Value.int .i64) (by first | exact hla | rfl | (rw [y3]; exact hla)), by first | exact (Fr.refl _ _).drewN _ | exact (Fr.refl _ _).drew.drew | exact (Fr.refl _ _).drew | exact ((Fr.refl _ _).drewN _).drewN _ | exact Fr.refl _ _⟩
                      obtain ⟨rfl, hfl⟩ := hcut
                      have HE6 := (show Hid _ from HEJ.out.same hfl)
                      obtain ⟨C, n', HQS, HRS, h3⟩ := stripe_both p b g cap r gr N W H d s j false Pj (lastRow j s H)
                      obtain ⟨rfl, hn3⟩ := h3 (stripe_last HS0.out.2 HS0.out.1) rfl
                      have hbn := HBN.out
                      have HQS := (show Hid _ from HQS _ HE6.out.qx (by omega) (by omega) (by omega))
                      have HRS := (show Hid _ from HRS)
                      have HN3 : Hid (n' + (H - n') = H ∧ H - n' < gk) := st_min HJQ.out hn3 HS0.out.2 HS0.out.1
                      clear hbn hfl h3 hn3 y1 y2 y3 k0 k1 k2 k3 k4 HEJ
                      generalize lastRow j s H = last at *
                      go_wp2_with fail
                      refine Calls.mono HQS.out ?_
                      rintro e w7 ⟨rfl, hq7, hf7⟩
                      have HE7 := (show Hid _ from HE6.out.stepq hq7 hf7 (fun k e => Or.inl e))
                      clear hq7 hf7 HQS HE6
                      go_wp2_with fail
                      refine Calls.mono (HRS.out w7 HE7.out.rx) ?_
                      rintro e w8 ⟨rfl, hr8, hf8⟩
                      have HE8 := (show Hid _ from HE7.out.stepr hr8 hf8 (fun k e => Or.inl e))
                      clear hr8 hf8 HRS HE7
                      go_wp2_with fail
                      go_roundg (H - n')
                      case measure => exact HN3.out.2
                      case rel => exact ⟨n', false, Pj, HN3.out.1, HE8.out⟩
                    · have d4 : decide ((H : Int) / (s : Int) < 200) = false := decide_eq_false hq
                      go_upto_region 38 with (fail)
                      go_quiet (fail)
                      go_wp2_with fail
                      go_meet
                      exact ⟨j, false, Pj, by first | exact HEJ.out.same ((Fr.refl _ _).drewN _) | exact HEJ.out.same (Fr.refl _ _).drew⟩
                  · have d3 : decide ((j : Int) < (H : Int)) = false := decide_eq_false (by omega)
                    have d3' : decide (j < H) = false := decide_eq_false hjH
                    go_upto_region 38 with (fail)
                    go_quiet (fail)
                    go_wp2_with fail
                    go_meet
                    exact ⟨j, false, Pj, by first | exact HEJ.out.same ((Fr.refl _ _).drewN _) | exact HEJ.out.same (Fr.refl _ _).drew⟩
                · go_upto_region 38 with (fail)
                  go_quiet (fail)
                  go_wp2_with fail
                  go_meet
                  exact ⟨j, true, Pj, by first | exact HEJ.out.same ((Fr.refl _ _).drewN _) | exact HEJ.out.same (Fr.refl _ _).drew⟩
        as_aux_lemma =>
          obtain ⟨n, dn, P, he⟩ := hcut
          have HE0 := (show Hid _ from he)
          clear he
          obtain ⟨C, ea, ec, el, n', dn', hel, hn', HQE, HRE⟩ := end_both p b g cap r gr N W H d s n dn P HN1.out HE0.out.bounds.2.2.2.2.2.2.2 HE0.out.bounds.2.2.2.2.2.1
          have HQE := (show Hid _ from HQE _ HE0.out.qx)
          have HRE := (show Hid _ from HRE)
          have HEL : Hid (el.length ≤ 1000) := hel
          clear hel hn'
          go_wp2_with fail
          refine Calls.mono HQE.out ?_
          rintro e w6 ⟨v1, rfl, hv1, hq6, hf6⟩
          obtain ⟨a1, c1, rfl⟩ : ∃ a1 c1, v1 = .slice a1 el.length c1 := by
            rcases hv1.2 with ⟨e, e2⟩ | ⟨g1, cp, cu, e, _⟩
            · exact ⟨none, 0, by rw [e, e2]⟩
            · exact ⟨_, _, e⟩
          have HE6 := (show Hid _ from HE0.out.stepq hq6 hf6 (fun k e => Or.inl e))
          have HV6 : Hid (w6.ownsRow M 65 1 (.slice a1 el.length c1) el.length (wordCells el)) := ownsRow_base hv1 (fun k e => by have := (hv1.lt k e).1; have := HE0.out.mw; omega)
          clear hv1 hq6 hf6 HQE HE0
          go_upto_region 45 with (fail)
          have HA7 : Hid ((w6.alloc (.cells #[.int .i64 ea, .int .i64 ec, .slice a1 el.length c1] 38)).heap[w6.heap.size]? = some (.cells #[.int .i64 ea, .int .i64 ec, .slice a1 el.length c1] 38 (0, 0))) := three_new w6 _ _ _
          have HE7 := (show Hid _ from HE6.out.same ((Fr.refl (fun _ => False) w6).alloc (.cells #[.int .i64 ea, .int .i64 ec, .slice a1 el.length c1] 38)))
          have HV7 : Hid ((w6.alloc (.cells #[.int .i64 ea, .int .i64 ec, .slice a1 el.length c1] 38)).ownsRow M 65 1 (.slice a1 el.length c1) el.length (wordCells el)) := row_kept HV6.out ((Fr.refl (fun _ => False) w6).alloc _) (fun _ _ h => h)
          have HM6 : Hid (M ≤ w6.heap.size) := HE6.out.mw
          generalize w6.alloc (.cells #[.int .i64 ea, .int .i64 ec, .slice a1 el.length c1] 38) = w7 at *
          generalize w6.heap.size = q1 at *
          clear HE6 HV6
          go_wp2_with fail
          refine Calls.mono (HRE.out w7 HE7.out.rx) ?_
          rintro e w8 ⟨v2, rfl, hv2, hr8, hf8⟩
          obtain ⟨a2, c2', rfl⟩ : ∃ a2 c2, v2 = .slice a2 el.length c2 := by
            rcases hv2.2 with ⟨e, e2⟩ | ⟨g1, cp, cu, e, _⟩
            · exact ⟨none, 0, by rw [e, e2]⟩
            · exact ⟨_, _, e⟩
          have HE8 := (show Hid _ from HE7.out.stepr hr8 hf8 (fun k e => Or.inl e))
          have hrl := HE7.out.lt.2.2.2.2.1
          have HA8 : Hid (w8.heap[q1]? = some (.cells #[.int .i64 ea, .int .i64 ec, .slice a1 el.length c1] 38 (0, 0))) := blk_kept HA7.out hf8 (by have := HM6.out; omega)
          have HV8 : Hid (w8.ownsRow M 65 1 (.slice a1 el.length c1) el.length (wordCells el)) := row_kept HV7.out hf8 (fun k e e2 => by have := (HV7.out.lt k e).1; omega)
          have HU8 : Hid (w8.ownsRow M 65 1 (.slice a2 el.length c2') el.length (wordCells el)) := ownsRow_base hv2 (fun k e => by have := (hv2.lt k e).1; have := HE7.out.mw; omega)
          clear hv2 hr8 hf8 hrl HA7 HE7 HV7 HRE
          go_upto_region 46 with (fail)
          have HA9 : Hid ((w8.alloc (.cells #[.int .i64 ea, .int .i64 ec, .slice a2 el.length c2'] 38)).heap[q1]? = some (.cells #[.int .i64 ea, .int .i64 ec, .slice a1 el.length c1] 38 (0, 0))) := blk_kept HA8.out ((Fr.refl (fun _ => False) w8).alloc _) (fun h => h)
          have HB9 : Hid ((w8.alloc (.cells #[.int .i64 ea, .int .i64 ec, .slice a2 el.length c2'] 38)).heap[w8.heap.size]? = some (.cells #[.int .i64 ea, .int .i64 ec, .slice a2 el.length c2'] 38 (0, 0))) := three_new w8 _ _ _
          have HE9 := (show Hid _ from HE8.out.same ((Fr.refl (fun _ => False) w8).alloc (.cells #[.int .i64 ea, .int .i64 ec, .slice a2 el.length c2'] 38)))
          have HV9 : Hid ((w8.alloc (.cells #[.int .i64 ea, .int .i64 ec, .slice a2 el.length c2'] 38)).ownsRow M 65 1 (.slice a1 el.length c1) el.length (wordCells el)) := row_kept HV8.out ((Fr.refl (fun _ => False) w8).alloc _) (fun _ _ h => h)
          have HU9 : Hid ((w8.alloc (.cells #[.int .i64 ea, .int .i64 ec, .slice a2 el.length c2'] 38)).ownsRow M 65 1 (.slice a2 el.length c2') el.length (wordCells el)) := row_kept HU8.out ((Fr.refl (fun _ => False) w8).alloc _) (fun _ _ h => h)
          generalize w8.alloc (.cells #[.int .i64 ea, .int .i64 ec, .slice a2 el.length c2'] 38) = w9 at *
          generalize w8.heap.size = q2 at *
          clear HA8 HE8 HV8 HU8
          have HQ9 : Hid (Calls Try.prog 18 #[.agg #[.int .i64 ea, .int .i64 ec, .slice a1 el.length c1], .agg #[.int .i64 ea, .int .i64 ec, .slice a2 el.length c2']] w9 fun e w' => e = .returned (.bool true) ∧ Fr (fun _ => False) w9 w') := eqBitmap_int ea ec _ _ el w9 (Seen.of_row HV9.out (by have := HEL.out; omega)) (Seen.of_row HU9.out (by have := HEL.out; omega))
          obtain ⟨x0, x1, x2, -⟩ := cell_of_three HA9.out
          obtain ⟨y0, y1, y2, -⟩ := cell_of_three HB9.out
          go_wp2_with fail
          refine Calls.mono HQ9.out ?_
          rintro e w10 ⟨rfl, hf10⟩
          have HE10 := (show Hid _ from HE9.out.same hf10)
          clear x0 x1 x2 y0 y1 y2 hf10 HA9 HB9 HE9 HV9 HU9 HQ9
          go_wp2_with fail
          refine (HWK.out _).mono ?_
          rintro e w11 ⟨rfl, hf11⟩
          have HF11 : Hid (Fr (fun _ => False) w w11) := HE10.out.fx.trans hf11 (fun _ _ h => h)
          clear hf11
          go_wp2_with fail
          go_ret
          exact ⟨rfl, HF11.out⟩
end Go.Proofs.Ytejempbgpkeheaa
