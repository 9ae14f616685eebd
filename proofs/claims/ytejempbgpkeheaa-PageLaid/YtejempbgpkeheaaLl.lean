/- PageLaid: what is added to a page without stripes, whole or row by row with OpOr, is the same. -/
import Derived.Test.YtejempbgpkeheaaSq
import Derived.Test.YtejempbgpkeheaaMay
import Derived.Deep.LoopGhost
import Derived.Deep.Cut
namespace Go.Proofs.Ytejempbgpkeheaa
open Go.RowKit

set_option maxRecDepth 100000 in
set_option maxHeartbeats 16000000 in
theorem laid_any (W0 H0 D0 S0 : Int) (ao : Option Addr) (n cap : Nat) (dv : Value) (A : Nat → Th) (w : World) (hb : I64 W0 ∧ I64 H0 ∧ I64 D0 ∧ I64 S0) (h : ThsAt w ao n A) (hdv : ∃ p k c, dv = .slice p k c) :
    Calls Try.prog 5 #[.agg #[.int .i64 W0, .int .i64 H0, .int .i64 D0, .int .i64 S0, .slice ao n cap, dv]] w fun e w' => e = .returned (.bool true) ∧ Fr (fun _ => False) w w' := by
  have hl := h.len
  obtain ⟨dp, dk, dc, rfl⟩ := hdv
  have HC : Hid (∀ j, j < n → ∃ b off av cv, ao = some ⟨b, off, none⟩ ∧ ThOK w (A j) ∧ (A j).v = .slice av (A j).l.length cv ∧ ∀ w', Fr (fun _ => False) w w' → w'.cell? ⟨b, off + j * 7, none⟩ = some (.int .i64 (A j).k) ∧ w'.cell? ⟨b, off + j * 7 + 1, none⟩ = some (.int .i64 (A j).x) ∧ w'.cell? ⟨b, off + j * 7 + 2, none⟩ = some (.int .i64 (A j).y) ∧ w'.cell? ⟨b, off + j * 7 + 3, none⟩ = some (.int .i64 (A j).op) ∧ w'.cell? ⟨b, off + j * 7 + 4, none⟩ = some (.int .i64 (A j).a) ∧ w'.cell? ⟨b, off + j * 7 + 5, none⟩ = some (.int .i64 (A j).b) ∧ w'.cell? ⟨b, off + j * 7 + 6, none⟩ = some (A j).v) := fun j hj => by
    have hok := h.ok j hj
    obtain ⟨av, cv, e1, _, _⟩ := hok.hv
    obtain ⟨b, off, e2, hc⟩ := h.cells (Nat.lt_of_le_of_lt (Nat.zero_le _) hj)
    obtain ⟨k0, k1, k2, k3, k4, k5, k6⟩ := hc j hj
    exact ⟨b, off, av, cv, e2, hok, e1, fun w' f => ⟨by rw [f.cell (seen_lt k0) (fun h => h)]; exact k0, by rw [f.cell (seen_lt k1) (fun h => h)]; exact k1, by rw [f.cell (seen_lt k2) (fun h => h)]; exact k2, by rw [f.cell (seen_lt k3) (fun h => h)]; exact k3, by rw [f.cell (seen_lt k4) (fun h => h)]; exact k4, by rw [f.cell (seen_lt k5) (fun h => h)]; exact k5, by rw [f.cell (seen_lt k6) (fun h => h)]; exact k6⟩⟩
  clear h
  have HSZ : Hid (∀ w' : World, Calls Try.prog 25 #[.int .i64 W0, .int .i64 H0] w' fun e w'' => e = .returned (.bool (sizeOK W0 H0)) ∧ w'' = w') := fun w' => zSize_any W0 H0 w' hb.1 hb.2.1
  clear hb
  have HB0 : Hid (∀ w', Fr (fun _ => False) (w.alloc (.cells #[.int .i64 W0, .int .i64 H0, .int .i64 D0, .int .i64 S0, .slice ao n cap, .slice dp dk dc] 27)) w' → w'.cell? ⟨w.heap.size, 0, none⟩ = some (.int .i64 W0) ∧ w'.cell? ⟨w.heap.size, 1, none⟩ = some (.int .i64 H0) ∧ w'.cell? ⟨w.heap.size, 4, none⟩ = some (.slice ao n cap)) := fun w' f => by
    have e := (f.block _ (by simp) (fun h => h)).trans (six_new w (.int .i64 W0) (.int .i64 H0) (.int .i64 D0) (.int .i64 S0) (.slice ao n cap) (.slice dp dk dc))
    obtain ⟨c0, c1, _, _, c4, _, _⟩ := cell_of_six e
    exact ⟨c0, c1, c4⟩
  have HW0 : Hid (Fr (fun _ => False) w (w.alloc (.cells #[.int .i64 W0, .int .i64 H0, .int .i64 D0, .int .i64 S0, .slice ao n cap, .slice dp dk dc] 27))) := (Fr.refl _ _).alloc _
  cases hsz : sizeOK W0 H0 with
  | false =>
    rw [hsz] at HSZ
    go_enter Try.func5, Try.ntmps5
    go_wp2_with fail
    refine (HSZ.out _).mono ?_
    rintro e w1 ⟨rfl, hw1⟩
    subst hw1
    go_wp2_with fail
    refine (wakes_any _).mono ?_
    rintro e w5 ⟨rfl, hf5⟩
    go_wp2_with fail
    go_ret
    exact ⟨rfl, HW0.out.trans hf5 (fun _ _ h => h)⟩
  | true =>
    rw [hsz] at HSZ
    obtain ⟨W, H, rfl, rfl, hW1, hH1, hWH⟩ := size_out hsz
    obtain ⟨z1, z2, -⟩ := size_facts hW1 hH1 hWH
    obtain ⟨ar, hmul⟩ := big_mul hW1 hH1 hWH
    have HAR : Hid (1 ≤ W ∧ 1 ≤ H ∧ W * H ≤ 1048576) := ⟨hW1, hH1, hWH⟩
    clear hsz hWH
    by_cases g0 : 24000 < ar
    · have d0 : decide ((24000 : Int) < ((ar : Nat) : Int)) = true := decide_eq_true (by omega)
      have d0' : decide (24000 < ar) = true := decide_eq_true g0
      go_enter Try.func5, Try.ntmps5
      go_wp2_with fail
      refine (HSZ.out _).mono ?_
      rintro e w1 ⟨rfl, hw1⟩
      subst hw1
      obtain ⟨c0, c1, c4⟩ := HB0.out _ (Fr.refl _ _)
      go_wp2_with fail
      refine (wakes_any _).mono ?_
      rintro e w5 ⟨rfl, hf5⟩
      go_wp2_with fail
      go_ret
      exact ⟨rfl, HW0.out.trans hf5 (fun _ _ h => h)⟩
    have d0 : decide ((24000 : Int) < ((ar : Nat) : Int)) = false := decide_eq_false (by omega)
    have d0' : decide (24000 < ar) = false := decide_eq_false g0
    have HNW : Hid (∀ w' : World, Calls Try.prog 6 #[.agg #[.int .i64 W, .int .i64 H, .int .i64 0, .int .i64 0]] w' fun e w'' => ∃ p b g cap, e = .returned (.tuple #[.pointer (some ⟨p, 0, none⟩), .int .i64 0]) ∧ PgAt w'' p b g cap W H 0 0 0 (fun _ _ => decide (0 = 1)) ∧ Fr (fun _ => False) w' w'' ∧ w'.heap.size ≤ p ∧ w'.heap.size ≤ b ∧ w'.heap.size ≤ g) := fun w' => pnew_ok W H 0 0 w' HAR.out.1 HAR.out.2.1 HAR.out.2.2 (by decide) (by decide)
    go_enter Try.func5, Try.ntmps5
    go_wp2_with fail
    refine (HSZ.out _).mono ?_
    rintro e w1 ⟨rfl, hw1⟩
    subst hw1
    obtain ⟨c0, c1, -⟩ := HB0.out _ (Fr.refl _ _)
    generalize w.alloc (.cells #[.int .i64 W, .int .i64 H, .int .i64 D0, .int .i64 S0, .slice ao n cap, .slice dp dk dc] 27) = w0 at *
    go_wp2_with fail
    refine (HNW.out _).mono ?_
    rintro e w1 ⟨pa, ba, ga, ca, rfl, hp1, hf1, n1, n2, n3⟩
    have HF1 : Hid (Fr (fun _ => False) w0 w1) := hf1
    have HP1 : Hid (PgAt w1 pa ba ga ca W H 0 0 0 (fun _ _ => decide (0 = 1))) := hp1
    have HA1 : Hid (w0.heap.size ≤ pa ∧ w0.heap.size ≤ ba ∧ w0.heap.size ≤ ga) := ⟨n1, n2, n3⟩
    clear hp1 n1 n2 n3 c0 c1 HSZ d0 d0' g0 hmul
    obtain ⟨c0, c1, -⟩ := HB0.out _ hf1
    clear hf1
    go_wp2_with fail
    refine (HNW.out _).mono ?_
    rintro e w2 ⟨pb, bb, gb, cb, rfl, hp2, hf2, n1, n2, n3⟩
    have HP2 : Hid (PgAt w2 pb bb gb cb W H 0 0 0 (fun _ _ => decide (0 = 1))) := hp2
    have HPA : Hid (PgAt w2 pa ba ga ca W H 0 0 0 (fun _ _ => decide (0 = 1))) := HP1.out.same hf2
    have HF2 : Hid (Fr (fun _ => False) w0 w2) := HF1.out.trans hf2 (fun _ _ h => h)
    have HSP : Hid (SepP w0 pa ba ga pb bb gb) := SepP.mk' HP1.out HA1.out n1 n2 n3 HF1.out.size
    clear hp2 hf2 n1 n2 n3 HNW HP1 HA1 HF1 c0 c1
    go_wp2_with fail
    go_loopg [7, 8, 9, 10, 11, 12] 6 (fun q i _ _ _ _ _ wr => ∃ j : Nat, j + q = 6 ∧ i = .int .i64 j ∧ (∃ P, PgAt wr pa ba ga ca W H 0 0 0 P ∧ PgAt wr pb bb gb cb W H 0 0 0 P) ∧ Fr (fun _ => False) w0 wr)
    case atStart => exact ⟨0, rfl, rfl, ⟨_, HPA.out, HP2.out⟩, HF2.out⟩
    case round =>
      obtain ⟨j, hjq, rfl, ⟨P, hpa, hpb⟩, hfr⟩ := hrel
      have HJ : Hid (j + gk = 6) := hjq
      have HFr : Hid (Fr (fun _ => False) w0 wr) := hfr
      have HPA : Hid (PgAt wr pa ba ga ca W H 0 0 0 P) := hpa
      have HPB : Hid (PgAt wr pb bb gb cb W H 0 0 0 P) := hpb
      clear hfr hpa hpb
      obtain ⟨c0, c1, c4⟩ := HB0.out wr HFr.out
      have HFw : Hid (Fr (fun _ => False) w wr) := HW0.out.trans HFr.out (fun _ _ h => h)
      by_cases hjn : j < n ∧ j < 6
      · obtain ⟨hj1, hj2⟩ := hjn
        have d1 : decide (j < n) = true := decide_eq_true hj1
        have d2 : decide (j < 6) = true := decide_eq_true hj2
        obtain ⟨bq, off, av, cv, rfl, hok, hev, hk⟩ := HC.out j hj1
        rw [hev] at hk
        have hvs : Seen w (.slice av (A j).l.length cv) (A j).l := by have := hok.hv; rwa [hev] at this
        have hvc : CapOK (.slice av (A j).l.length cv) := by have := hok.hc; rwa [hev] at this
        have HMY : Hid (∀ w', Fr (fun _ => False) w w' → Calls Try.prog 21 #[.agg #[.int .i64 (A j).a, .int .i64 (A j).b, .slice av (A j).l.length cv]] w' fun e w'' => e = .returned (.bool (validB (A j).a (A j).b (A j).l)) ∧ Fr (fun _ => False) w' w'') := fun w' f => may_any (A j).a (A j).b _ (A j).l w' hok.ha hok.hb (hvs.kept f) hok.hlt
        have HVB : Hid (validB (A j).a (A j).b (A j).l = true → ∃ (Wb Hb : Nat) (B : Nat → Nat → Bool), (A j).a = Wb ∧ (A j).b = Hb ∧ (A j).l = render Wb Hb B ∧ Bm w (.slice av (A j).l.length cv) Wb Hb B) := fun hv => valid_bm hv hvs hvc hok.hlt
        have HXX : Hid (I64 (A j).x) := hok.hx
        have HYY : Hid (I64 (A j).y) := hok.hy
        obtain ⟨q0, q1, q2, q3, q4, q5, q6⟩ := hk wr HFw.out
        clear hk hok hev hvs hvc
        obtain ⟨ll, hll⟩ : ∃ ll, ll = (A j).l := ⟨_, rfl⟩
        rw [← hll] at q6 HMY HVB
        clear hll
        generalize (A j).a = xa at *
        generalize (A j).b = xb at *
        generalize (A j).x = xx at *
        generalize (A j).y = yy at *
        generalize (A j).k = xk at *
        generalize (A j).op = xo at *
        obtain ⟨nl, hnl⟩ : ∃ nl, nl = ll.length := ⟨_, rfl⟩
        rw [← hnl] at q6 HMY HVB
        clear hnl
        have HB1 : Hid ((wr.alloc (.cells #[.int .i64 xk, .int .i64 xx, .int .i64 yy, .int .i64 xo, .int .i64 xa, .int .i64 xb, .slice av nl cv] 40)).heap[wr.heap.size]? = some (.cells #[.int .i64 xk, .int .i64 xx, .int .i64 yy, .int .i64 xo, .int .i64 xa, .int .i64 xb, .slice av nl cv] 40 (0, 0))) := seven_new _ _ _ _ _ _ _ _
        have HF1 : Hid (Fr (fun _ => False) wr (wr.alloc (.cells #[.int .i64 xk, .int .i64 xx, .int .i64 yy, .int .i64 xo, .int .i64 xa, .int .i64 xb, .slice av nl cv] 40))) := (Fr.refl _ _).alloc _
        have HWX : Hid (∀ w' : World, Calls Try.prog 22 #[.int .i64 xx, .int .i64 50] w' fun e w'' => e = .returned (.int .i64 (xx % 50)) ∧ w'' = w') := fun w' => within_any xx 50 w' HXX.out (by decide) (by decide)
        have HWY : Hid (∀ w' : World, Calls Try.prog 22 #[.int .i64 yy, .int .i64 50] w' fun e w'' => e = .returned (.int .i64 (yy % 50)) ∧ w'' = w') := fun w' => within_any yy 50 w' HYY.out (by decide) (by decide)
        obtain ⟨X, hX⟩ : ∃ X : Int, X = xx % 50 - 10 := ⟨_, rfl⟩
        have hX2 : wrap64 (xx % 50 - 10) = X := by rw [hX]; have := mod50 (x := xx); exact wr64 (by omega)
        have HX : Hid (-10 ≤ X ∧ X < 40) := by have := mod50 (x := xx); exact ⟨by omega, by omega⟩
        have HY : Hid (0 ≤ yy % 50 ∧ yy % 50 < 50) := mod50
        clear hX
        generalize hym : yy % 50 = Y at *
        clear hym
        generalize hxm : xx % 50 = xm at *
        clear hxm
        go_wp2_with fail
        generalize wr.alloc (.cells #[.int .i64 xk, .int .i64 xx, .int .i64 yy, .int .i64 xo, .int .i64 xa, .int .i64 xb, .slice av nl cv] 40) = w3 at *
        obtain ⟨o0, o1, o2, o3, o4, o5, o6, of⟩ := cell_of_seven HB1.out
        have HOB : Hid (ga ≠ wr.heap.size ∧ gb ≠ wr.heap.size) := ⟨Nat.ne_of_lt HPA.out.map.glt, Nat.ne_of_lt HPB.out.map.glt⟩
        have HJ2 : Hid (j < 6) := hj2
        have HFw3 : Hid (Fr (fun _ => False) w w3) := HFw.out.trans HF1.out (fun _ _ h => h)
        have HF3 : Hid (Fr (fun _ => False) w0 w3) := HFr.out.trans HF1.out (fun _ _ h => h)
        have HPA3 : Hid (PgAt w3 pa ba ga ca W H 0 0 0 P) := HPA.out.same HF1.out
        have HPB3 : Hid (PgAt w3 pb bb gb cb W H 0 0 0 P) := HPB.out.same HF1.out
        clear HFr HPA HPB HFw HF1 HC HB0 q0 q1 q2 q3 q4 q5 q6 c0 c1 c4 hjq hl hj1 hj2 hW1 hH1 z1 z2
        generalize wr.heap.size = bO at *
        refine (HWX.out _).mono ?_
        rintro e w4 ⟨rfl, rfl⟩
        go_wp2_with fail
        refine (HWY.out _).mono ?_
        rintro e w5 ⟨rfl, rfl⟩
        have HM1 : Hid (Calls Try.prog 21 #[.agg #[.int .i64 xa, .int .i64 xb, .slice av nl cv]] w5 fun e w'' => e = .returned (.bool (validB xa xb ll)) ∧ Fr (fun _ => False) w5 w'') := HMY.out _ HFw3.out
        clear HMY HWX HWY
        cases hvb : validB xa xb ll with
        | false =>
          rw [hvb] at HM1
          go_wp2_with fail
          refine HM1.out.mono ?_
          rintro e w6 ⟨rfl, hf6⟩
          have HF6 : Hid (Fr (fun _ => False) w0 w6) := HF3.out.trans hf6 (fun _ _ h => h)
          have HPA6 : Hid (PgAt w6 pa ba ga ca W H 0 0 0 P) := HPA3.out.same hf6
          have HPB6 : Hid (PgAt w6 pb bb gb cb W H 0 0 0 P) := HPB3.out.same hf6
          go_wp2_with fail
          go_roundg (6 - (j + 1))
          case measure => exact nx6a HJ.out HJ2.out
          case rel => exact ⟨j + 1, nx6 HJ2.out, congrArg (Value.int .i64) (nx6w HJ2.out), ⟨P, HPA6.out, HPB6.out⟩, HF6.out⟩
        | true =>
          rw [hvb] at HM1
          obtain ⟨Wb, Hb, B, rfl, rfl, hrl, hbm⟩ := HVB.out hvb
          have HBM : Hid (Bm w (.slice av nl cv) Wb Hb B) := hbm
          obtain ⟨z1, z2, -⟩ := size_facts hbm.h1 hbm.h2 hbm.h3
          obtain ⟨ar2, hm1, hm2⟩ := small_mul hbm.h3
          clear hrl hbm HVB hvb
          go_wp2_with fail
          refine HM1.out.mono ?_
          rintro e w6 ⟨rfl, hf6⟩
          have HF6 : Hid (Fr (fun _ => False) w0 w6) := HF3.out.trans hf6 (fun _ _ h => h)
          have HFw6 : Hid (Fr (fun _ => False) w w6) := HFw3.out.trans hf6 (fun _ _ h => h)
          have HPA6 : Hid (PgAt w6 pa ba ga ca W H 0 0 0 P) := HPA3.out.same hf6
          have HPB6 : Hid (PgAt w6 pb bb gb cb W H 0 0 0 P) := HPB3.out.same hf6
          have HB6 : Hid (w6.heap[bO]? = some (.cells #[.int .i64 xk, .int .i64 xx, .int .i64 yy, .int .i64 xo, .int .i64 Wb, .int .i64 Hb, .slice av nl cv] 40 (0, 0))) := blk_kept HB1.out hf6 (fun h => h)
          clear hf6 o0 o1 o2 o3 o4 o5 o6 of HM1 HF3 HFw3 HPA3 HPB3 HB1
          obtain ⟨-, -, -, -, o4, o5, o6, -⟩ := cell_of_seven HB6.out
          by_cases g1 : 600 < ar2
          · have d3 : decide ((600 : Int) < ((ar2 : Nat) : Int)) = true := decide_eq_true (by omega)
            have d3' : decide (600 < ar2) = true := decide_eq_true (by omega)
            go_wp2_with fail
            go_roundg (6 - (j + 1))
            case measure => exact nx6a HJ.out HJ2.out
            case rel => exact ⟨j + 1, nx6 HJ2.out, congrArg (Value.int .i64) (nx6w HJ2.out), ⟨P, HPA6.out, HPB6.out⟩, HF6.out⟩
          by_cases g2 : 60 < Hb
          · have d3 : decide ((600 : Int) < ((ar2 : Nat) : Int)) = false := decide_eq_false (by omega)
            have d3' : decide (600 < ar2) = false := decide_eq_false (by omega)
            have d4 : decide (60 < Hb) = true := decide_eq_true (by omega)
            go_wp2_with fail
            go_roundg (6 - (j + 1))
            case measure => exact nx6a HJ.out HJ2.out
            case rel => exact ⟨j + 1, nx6 HJ2.out, congrArg (Value.int .i64) (nx6w HJ2.out), ⟨P, HPA6.out, HPB6.out⟩, HF6.out⟩
          have d3 : decide ((600 : Int) < ((ar2 : Nat) : Int)) = false := decide_eq_false (by omega)
          have d3' : decide (600 < ar2) = false := decide_eq_false (by omega)
          have d4 : decide (60 < Hb) = false := decide_eq_false (by omega)
          have HAA : Hid (Calls Try.prog 11 #[.pointer (some ⟨pa, 0, none⟩), .int .i64 X, .int .i64 Y, .int .i64 0, .agg #[.int .i64 Wb, .int .i64 Hb, .slice av nl cv]] w6 fun e w' => e = .returned (.int .i64 0) ∧ PgAt w' pa ba ga ca W H 0 0 0 (addPix 0 P B Wb Hb X Y) ∧ Fr (fun k => k = ga) w6 w') :=
            add_ok X Y 0 Wb Hb _ B w6 HPA6.out (by decide) (HBM.out.kept HFw6.out) (i64_in (Int.le_trans (by decide) HX.out.1) (Int.le_trans (Int.le_of_lt HX.out.2) (by decide))) (i64_in (Int.le_trans (by decide) HY.out.1) (Int.le_trans (Int.le_of_lt HY.out.2) (by decide))) (hold_free Hb HY.out.1)
          have HBC : Hid (1 ≤ Wb ∧ 1 ≤ Hb ∧ Hb ≤ 60 ∧ Wb * 1 ≤ 1048576) := ⟨HBM.out.h1, HBM.out.h2, Nat.le_of_not_lt g2, by omega⟩
          go_wp2_with fail
          refine HAA.out.mono ?_
          rintro e w7 ⟨rfl, hp7, hf7⟩
          have HF7 : Hid (Fr (fun _ => False) w0 w7) := HF6.out.new0 hf7 HSP.out.n2
          have HPA7 : Hid (PgAt w7 pa ba ga ca W H 0 0 0 (addPix 0 P B Wb Hb X Y)) := hp7
          have HPB7 : Hid (PgAt w7 pb bb gb cb W H 0 0 0 P) := HPB6.out.far hf7 HSP.out.b1 HSP.out.b2 HSP.out.b3
          have HB7 : Hid (w7.heap[bO]? = some (.cells #[.int .i64 xk, .int .i64 xx, .int .i64 yy, .int .i64 xo, .int .i64 Wb, .int .i64 Hb, .slice av nl cv] 40 (0, 0))) := blk_kept HB6.out hf7 (fun e => HOB.out.1 e.symm)
          have HBM0 : Hid (Bm w0 (.slice av nl cv) Wb Hb B) := HBM.out.kept HW0.out
          clear hp7 hf7 HAA HF6 HFw6 HPA6 HPB6 HB6 o4 o5 o6 z1 z2 hm1 hm2 g1 g2 d3 d3' d4 hX2
          go_wp2_with fail
          go_loopg [11, 12] Hb (fun q i _ wq => ∃ J : Nat, J + q = Hb ∧ i = .int .i64 J ∧ PgAt wq pa ba ga ca W H 0 0 0 (addPix 0 P B Wb Hb X Y) ∧ PgAt wq pb bb gb cb W H 0 0 0 (addPix 0 P B Wb J X Y) ∧ Fr (fun k => k = gb) w7 wq)
          case atStart => exact ⟨0, Nat.zero_add _, rfl, HPA7.out, by rw [add_none]; exact HPB7.out, Fr.refl _ _⟩
          case round =>
            obtain ⟨J, hJq, rfl, hpa, hpb, hfq⟩ := hrel
            have HJQ : Hid (J + gk = Hb) := hJq
            have HPAq : Hid (PgAt wr pa ba ga ca W H 0 0 0 (addPix 0 P B Wb Hb X Y)) := hpa
            have HPBq : Hid (PgAt wr pb bb gb cb W H 0 0 0 (addPix 0 P B Wb J X Y)) := hpb
            have HFq : Hid (Fr (fun k => k = gb) w7 wr) := hfq
            have HF0q : Hid (Fr (fun _ => False) w0 wr) := HF7.out.new0 hfq HSP.out.n4
            have HBq : Hid (wr.heap[bO]? = some (.cells #[.int .i64 xk, .int .i64 xx, .int .i64 yy, .int .i64 xo, .int .i64 Wb, .int .i64 Hb, .slice av nl cv] 40 (0, 0))) := blk_kept HB7.out hfq (fun e => HOB.out.2 e.symm)
            obtain ⟨-, -, -, -, o4, o5, o6, -⟩ := cell_of_seven HBq.out
            clear hJq hpa hpb hfq
            by_cases hJH : J < Hb
            · have dJ : decide (J < Hb) = true := decide_eq_true hJH
              have HJH : Hid (J < Hb) := hJH
              clear hJH
              go_wp2_with fail
              refine (white_rb Wb 1 1 _ rfl HBC.out.1 (by decide) HBC.out.2.2.2).mono ?_
              rintro e w8 ⟨gw, N, rfl, hr8, hf8, hg8⟩
              have HR8 : Hid (RB w8 gw N Wb 1 (fun _ _ => false)) := hr8
              have HF8 : Hid (Fr (fun _ => False) w0 w8) := HF0q.out.trans hf8 (fun _ _ h => h)
              have HF78 : Hid (Fr (fun k => k = gb) w7 w8) := HFq.out.more hf8
              have HPA8 : Hid (PgAt w8 pa ba ga ca W H 0 0 0 (addPix 0 P B Wb Hb X Y)) := HPAq.out.same hf8
              have HPB8 : Hid (PgAt w8 pb bb gb cb W H 0 0 0 (addPix 0 P B Wb J X Y)) := HPBq.out.same hf8
              have HB8 : Hid (w8.heap[bO]? = some (.cells #[.int .i64 xk, .int .i64 xx, .int .i64 yy, .int .i64 xo, .int .i64 Wb, .int .i64 Hb, .slice av nl cv] 40 (0, 0))) := blk_kept HBq.out hf8 (fun h => h)
              have HGW : Hid (NewG gw w0 w7 w8 pa ba ga pb bb gb bO) := NewG.mk' HPAq.out HPBq.out HF0q.out.size HFq.out.size hg8 hr8.lt (lt_of_block HBq.out)
              clear hr8 hf8 hg8 o4 o5 o6 HPAq HPBq HFq HF0q HBq
              have HK9 : Hid ((w8.alloc (.cells #[.int .i64 Wb, .int .i64 1, .slice (some ⟨gw, 0, none⟩) N N] 38)).heap[w8.heap.size]? = some (.cells #[.int .i64 Wb, .int .i64 1, .slice (some ⟨gw, 0, none⟩) N N] 38 (0, 0))) := three_new _ _ _ _
              have HF9 : Hid (Fr (fun _ => False) w8 (w8.alloc (.cells #[.int .i64 Wb, .int .i64 1, .slice (some ⟨gw, 0, none⟩) N N] 38))) := (Fr.refl _ _).alloc _
              obtain ⟨-, -, -, -, o4, o5, o6, -⟩ := cell_of_seven (blk_kept HB8.out HF9.out (fun h => h))
              obtain ⟨k0, k1, k2, kf⟩ := cell_of_three HK9.out
              have HLY : Hid (Calls Try.prog 24 #[.agg #[.int .i64 Wb, .int .i64 1, .slice (some ⟨gw, 0, none⟩) N N], .int .i64 0, .int .i64 (-(J : Int)), .int .i64 0, .agg #[.int .i64 Wb, .int .i64 Hb, .slice av nl cv]] (w8.alloc (.cells #[.int .i64 Wb, .int .i64 1, .slice (some ⟨gw, 0, none⟩) N N] 38)) fun e w' => e = .returned (.tuple #[]) ∧ RB w' gw N Wb 1 (fun x y => B x (y + J)) ∧ Fr (fun k => k = gw) (w8.alloc (.cells #[.int .i64 Wb, .int .i64 1, .slice (some ⟨gw, 0, none⟩) N N] 38)) w') := by
                refine (lay_rb 0 (by decide) Wb 1 gw N (fun _ _ => false) 0 (-(J : Int)) Wb Hb (.slice av nl cv) B _ (HR8.out.kept HF9.out (fun h => h)) (fun w' f => HBM0.out.kept ((HF8.out.trans HF9.out (fun _ _ h => h)).new0 f HGW.out.n0)) HBC.out.1 (by decide) HBC.out.2.2.2 i64_zero (i64_neg HBC.out.2.2.1 HJH.out)).mono ?_
                rintro e w' ⟨he, hr, hf⟩
                exact ⟨he, hr.pix (row_lay B HJH.out), hf⟩
              obtain ⟨hng, hyj⟩ := laid_w HBC.out.2.2.1 HJH.out HY.out.1 HY.out.2
              go_wp2_with fail
              refine HLY.out.mono ?_
              rintro e w10 ⟨rfl, hr10, hf10⟩
              have HR10 : Hid (RB w10 gw N Wb 1 (fun x y => B x (y + J))) := hr10
              have HF10 : Hid (Fr (fun k => k = gb) w7 w10) := (HF78.out.more HF9.out).newer hf10 HGW.out.n7
              have HPA10 : Hid (PgAt w10 pa ba ga ca W H 0 0 0 (addPix 0 P B Wb Hb X Y)) := (HPA8.out.same HF9.out).far hf10 HGW.out.a1 HGW.out.a2 HGW.out.a3
              have HPB10 : Hid (PgAt w10 pb bb gb cb W H 0 0 0 (addPix 0 P B Wb J X Y)) := (HPB8.out.same HF9.out).far hf10 HGW.out.b1 HGW.out.b2 HGW.out.b3
              have HK10 : Hid (w10.heap[w8.heap.size]? = some (.cells #[.int .i64 Wb, .int .i64 1, .slice (some ⟨gw, 0, none⟩) N N] 38 (0, 0))) := three_kept HK9.out hf10 HGW.out.nz
              clear hr10 hf10 HLY HK9 HF9 HR8 HF8 HF78 HPA8 HPB8 HB8 o4 o5 o6 k0 k1 k2 kf hng
              obtain ⟨k0, k1, k2, kf⟩ := cell_of_three HK10.out
              have HAB : Hid (Calls Try.prog 11 #[.pointer (some ⟨pb, 0, none⟩), .int .i64 X, .int .i64 (Y + (J : Int)), .int .i64 0, .agg #[.int .i64 Wb, .int .i64 1, .slice (some ⟨gw, 0, none⟩) N N]] w10 fun e w' => e = .returned (.int .i64 0) ∧ PgAt w' pb bb gb cb W H 0 0 0 (addPix 0 P B Wb (J + 1) X Y) ∧ Fr (fun k => k = gb) w10 w') :=
                (add_ok X (Y + (J : Int)) 0 Wb 1 _ (fun x y => B x (y + J)) w10 HPB10.out (by decide) (HR10.out.bm HBC.out.1 (by decide) HBC.out.2.2.2) (i64_in (Int.le_trans (by decide) HX.out.1) (Int.le_trans (Int.le_of_lt HX.out.2) (by decide))) (laid_y HBC.out.2.2.1 HJH.out HY.out.1 HY.out.2) (hold_free 1 (Int.add_nonneg HY.out.1 (Int.natCast_nonneg J)))).mono fun e w' ⟨he, hp, hf⟩ => ⟨he, hp.pix (fun x y _ _ => add_row P B Wb J X Y x y), hf⟩
              go_wp2_with fail
              refine HAB.out.mono ?_
              rintro e w11 ⟨rfl, hp11, hf11⟩
              have HPB11 : Hid (PgAt w11 pb bb gb cb W H 0 0 0 (addPix 0 P B Wb (J + 1) X Y)) := hp11
              have HPA11 : Hid (PgAt w11 pa ba ga ca W H 0 0 0 (addPix 0 P B Wb Hb X Y)) := HPA10.out.far hf11 HSP.out.a1 HSP.out.a2 HSP.out.a3
              have HF11 : Hid (Fr (fun k => k = gb) w7 w11) := HF10.out.trans hf11 (fun _ _ h => h)
              clear hp11 hf11 HAB HPA10 HPB10 HF10 HK10 k0 k1 k2 kf hyj
              go_wp2_with fail
              go_roundg (Hb - (J + 1))
              case measure => exact nxHa HJQ.out HJH.out
              case rel => exact ⟨J + 1, nxH HJH.out, congrArg (Value.int .i64) (nxHw HBC.out.2.2.1 HJH.out), HPA11.out, HPB11.out, HF11.out⟩
            · have dJ : decide (J < Hb) = false := decide_eq_false hJH
              have HPX : Hid (PgAt wr pb bb gb cb W H 0 0 0 (addPix 0 P B Wb Hb X Y)) := by
                have := HPBq.out
                rwa [nxE HJQ.out hJH] at this
              go_wp2_with fail
              go_roundg (6 - (j + 1))
              case measure => exact nx6a HJ.out HJ2.out
              case rel => exact ⟨j + 1, nx6 HJ2.out, congrArg (Value.int .i64) (nx6w HJ2.out), ⟨_, HPAq.out, HPX.out⟩, HF0q.out⟩
      · by_cases q1 : j < n
        · have e1 : decide (j < n) = true := decide_eq_true q1
          have e3 : ¬ j < 6 := fun h => hjn ⟨q1, h⟩
          have e2 : decide (j < 6) = false := decide_eq_false e3
          clear hjn
          go_wp2_with fail
          refine (end_rb wr HPA.out (Or.inl rfl)).mono ?_
          rintro e w3 ⟨g2, N, c2, rfl, ⟨hN, hr3⟩, hpe, hf3, hg3⟩
          have HNE : Hid (N = H * stride W) := hN
          have HFB : Hid (Fr (fun _ => False) w3 (w3.alloc (.cells #[.int .i64 W, .int .i64 H, .slice (some ⟨g2, 0, none⟩) N c2] 38))) := (Fr.refl _ _).alloc _
          have HKC : Hid ((w3.alloc (.cells #[.int .i64 W, .int .i64 H, .slice (some ⟨g2, 0, none⟩) N c2] 38)).heap[w3.heap.size]? = some (.cells #[.int .i64 W, .int .i64 H, .slice (some ⟨g2, 0, none⟩) N c2] 38 (0, 0))) := three_new _ _ _ _
          have HRC : Hid (RowAt (w3.alloc (.cells #[.int .i64 W, .int .i64 H, .slice (some ⟨g2, 0, none⟩) N c2] 38)) g2 c2 W H P) := hr3.kept HFB.out (fun h => h)
          have HPE : Hid (PgEnd (w3.alloc (.cells #[.int .i64 W, .int .i64 H, .slice (some ⟨g2, 0, none⟩) N c2] 38)) pa W H 0 0) := hpe.same HFB.out
          have HPB3 : Hid (PgAt (w3.alloc (.cells #[.int .i64 W, .int .i64 H, .slice (some ⟨g2, 0, none⟩) N c2] 38)) pb bb gb cb W H 0 0 0 P) := (HPB.out.far hf3 (fun e => HSP.out.pp e.symm) HSP.out.c1 HSP.out.c2).same HFB.out
          have HF3 : Hid (Fr (fun _ => False) w0 (w3.alloc (.cells #[.int .i64 W, .int .i64 H, .slice (some ⟨g2, 0, none⟩) N c2] 38))) := (HFr.out.new0 hf3 HSP.out.n1).trans HFB.out (fun _ _ h => h)
          have HNB : Hid (w3.heap.size ≠ pb ∧ g2 ≠ pb) := rows_same HPB.out.lt hf3.size hg3
          clear hN hr3 hpe hf3 hg3 HPA HPB HFr HFB c0 c1 c4 HC HF2 HP2 HFw
          go_wp2_with fail
          generalize w3.alloc (.cells #[.int .i64 W, .int .i64 H, .slice (some ⟨g2, 0, none⟩) N c2] 38) = w3' at *
          generalize w3.heap.size = oc at *
          refine (end_rb w3' HPB3.out (Or.inl rfl)).mono ?_
          rintro e w4 ⟨g4, N4, c4, rfl, ⟨hN4, hr4⟩, -, hf4, -⟩
          have HNE4 : Hid (N4 = H * stride W) := hN4
          have HFB : Hid (Fr (fun _ => False) w4 (w4.alloc (.cells #[.int .i64 W, .int .i64 H, .slice (some ⟨g4, 0, none⟩) N4 c4] 38))) := (Fr.refl _ _).alloc _
          have HKD : Hid ((w4.alloc (.cells #[.int .i64 W, .int .i64 H, .slice (some ⟨g4, 0, none⟩) N4 c4] 38)).heap[w4.heap.size]? = some (.cells #[.int .i64 W, .int .i64 H, .slice (some ⟨g4, 0, none⟩) N4 c4] 38 (0, 0))) := three_new _ _ _ _
          have HRD : Hid (RowAt (w4.alloc (.cells #[.int .i64 W, .int .i64 H, .slice (some ⟨g4, 0, none⟩) N4 c4] 38)) g4 c4 W H P) := hr4.kept HFB.out (fun h => h)
          have HRC4 : Hid (RowAt (w4.alloc (.cells #[.int .i64 W, .int .i64 H, .slice (some ⟨g4, 0, none⟩) N4 c4] 38)) g2 c2 W H P) := (HRC.out.kept hf4 HNB.out.2).kept HFB.out (fun h => h)
          have HKC4 : Hid ((w4.alloc (.cells #[.int .i64 W, .int .i64 H, .slice (some ⟨g4, 0, none⟩) N4 c4] 38)).heap[oc]? = some (.cells #[.int .i64 W, .int .i64 H, .slice (some ⟨g2, 0, none⟩) N c2] 38 (0, 0))) := blk_kept (blk_kept HKC.out hf4 HNB.out.1) HFB.out (fun h => h)
          have HPE4 : Hid (PgEnd (w4.alloc (.cells #[.int .i64 W, .int .i64 H, .slice (some ⟨g4, 0, none⟩) N4 c4] 38)) pa W H 0 0) := (HPE.out.kept hf4 HSP.out.pp).same HFB.out
          have HF4 : Hid (Fr (fun _ => False) w0 (w4.alloc (.cells #[.int .i64 W, .int .i64 H, .slice (some ⟨g4, 0, none⟩) N4 c4] 38))) := (HF3.out.new0 hf4 HSP.out.n3).trans HFB.out (fun _ _ h => h)
          clear hN4 hr4 hf4 HFB HRC HKC HPE HPB3 HF3 HNB
          go_wp2_with fail
          generalize w4.alloc (.cells #[.int .i64 W, .int .i64 H, .slice (some ⟨g4, 0, none⟩) N4 c4] 38) = w4' at *
          generalize w4.heap.size = od at *
          refine (end_ended w4' HPE4.out).mono ?_
          rintro e w5 ⟨rfl, hf5⟩
          have HF5 : Hid (Fr (fun _ => False) w4' (w5.alloc (.cells #[.int .i64 0, .int .i64 0, .slice none 0 0] 38))) := hf5.alloc _
          clear hf5
          go_upto_region 26 with (fail)
          generalize w5.alloc (.cells #[.int .i64 0, .int .i64 0, .slice none 0 0] 38) = w6 at *
          have HKS : Hid (∀ w', Fr (fun _ => False) w6 w' → (w'.cell? ⟨oc, 0, none⟩ = some (.int .i64 W) ∧ w'.cell? ⟨oc, 1, none⟩ = some (.int .i64 H) ∧ w'.cell? ⟨oc, 2, none⟩ = some (.slice (some ⟨g2, 0, none⟩) N c2)) ∧ (w'.cell? ⟨od, 0, none⟩ = some (.int .i64 W) ∧ w'.cell? ⟨od, 1, none⟩ = some (.int .i64 H) ∧ w'.cell? ⟨od, 2, none⟩ = some (.slice (some ⟨g4, 0, none⟩) N4 c4)) ∧ w'.cell? ⟨w.heap.size, 1, none⟩ = some (.int .i64 H)) := fun w' f => by
            have f4 : Fr (fun _ => False) w4' w' := HF5.out.trans f (fun _ _ h => h)
            exact ⟨three_cells HKC4.out f4 (fun h => h), three_cells HKD.out f4 (fun h => h), (HB0.out w' (HF4.out.trans f4 (fun _ _ h => h))).2.1⟩
          have HEQ : Hid (∀ w', Fr (fun _ => False) w6 w' → Calls Try.prog 18 #[.agg #[.int .i64 W, .int .i64 H, .slice (some ⟨g2, 0, none⟩) N c2], .agg #[.int .i64 W, .int .i64 H, .slice (some ⟨g4, 0, none⟩) N4 c4]] w' fun e w'' => e = .returned (.bool true) ∧ Fr (fun _ => False) w' w'') := fun w' f => by
            have f4 : Fr (fun _ => False) w4' w' := HF5.out.trans f (fun _ _ h => h)
            exact eq_rows HNE.out (HRC4.out.kept f4 (fun h => h)) HNE4.out (HRD.out.kept f4 (fun h => h)) HAR.out.1 HAR.out.2.1 HAR.out.2.2
          have HWH : Hid (∀ w' : World, Calls Try.prog 23 #[.int .i64 1, .int .i64 1] w' fun e w'' => ∃ gq N, e = .returned (.agg #[.int .i64 1, .int .i64 1, .slice (some ⟨gq, 0, none⟩) N N]) ∧ Bm w'' (.slice (some ⟨gq, 0, none⟩) N N) 1 1 (fun _ _ => false) ∧ Fr (fun _ => False) w' w'') := fun w' =>
            (white_rb 1 1 1 w' rfl (by decide) (by decide) (by decide)).mono fun e w'' ⟨gq, N, he, hr, hf, _⟩ => ⟨gq, N, he, hr.bm (by decide) (by decide) (by decide), hf⟩
          have HAD : Hid (∀ (w' : World) (v : Value), Fr (fun _ => False) w6 w' → Bm w' v 1 1 (fun _ _ => false) → Calls Try.prog 11 #[.pointer (some ⟨pa, 0, none⟩), .int .i64 0, .int .i64 H, .int .i64 0, .agg #[.int .i64 1, .int .i64 1, v]] w' fun e w'' => e = .returned (.int .i64 151) ∧ Fr (fun _ => False) w' w'') := fun w' v f hv =>
            add_ended 0 (H : Int) 0 1 1 v (fun _ _ => false) w' (HPE4.out.same (HF5.out.trans f (fun _ _ h => h))) (by decide) hv
          have HNX : Hid (∀ w', Fr (fun _ => False) w6 w' → Calls Try.prog 20 #[.pointer (some ⟨pa, 0, none⟩)] w' fun e w'' => e = .returned (.int .i64 H) ∧ w'' = w') := fun w' f => next_any (HPE4.out.same (HF5.out.trans f (fun _ _ h => h)))
          have hHH : ((H : Int) == (H : Int)) = true := by simp
          have HFE : Hid (Fr (fun _ => False) w w6) := HW0.out.trans (HF4.out.trans HF5.out (fun _ _ h => h)) (fun _ _ h => h)
          clear HF4 HF5 HRC4 HRD HKC4 HKD HPE4 HNE HNE4 HSP HB0 HW0 HAR hjq hl hW1 hH1 z1 z2 HJ
          go_region_held3 (fun w' => w'.cell? ⟨oc, 0, none⟩ = some (.int .i64 W) ∧ w'.cell? ⟨oc, 1, none⟩ = some (.int .i64 H) ∧ w'.cell? ⟨oc, 2, none⟩ = some (.slice (some ⟨g2, 0, none⟩) N c2) ∧ w'.cell? ⟨od, 0, none⟩ = some (.int .i64 W) ∧ w'.cell? ⟨od, 1, none⟩ = some (.int .i64 H) ∧ w'.cell? ⟨od, 2, none⟩ = some (.slice (some ⟨g4, 0, none⟩) N4 c4) ∧ w'.cell? ⟨w.heap.size, 1, none⟩ = some (.int .i64 H)) (exact (fun h => ⟨h.1.1, h.1.2.1, h.1.2.2, h.2.1.1, h.2.1.2.1, h.2.1.2.2, h.2.2⟩) (HKS.out _ (by repeat (first | with_reducible exact Fr.refl _ _ | with_reducible refine Fr.drew ?_ | with_reducible refine Fr.trans ?_ hfA (fun _ _ hh => hh) | with_reducible refine Fr.trans ?_ hf9 (fun _ _ hh => hh) | with_reducible refine Fr.trans ?_ hf8 (fun _ _ hh => hh) | with_reducible refine Fr.trans ?_ hf7 (fun _ _ hh => hh))))) (first | (go_at_call 18; refine (HEQ.out _ (by repeat (first | with_reducible exact Fr.refl _ _ | with_reducible refine Fr.drew ?_ | with_reducible refine Fr.trans ?_ hfA (fun _ _ hh => hh) | with_reducible refine Fr.trans ?_ hf9 (fun _ _ hh => hh) | with_reducible refine Fr.trans ?_ hf8 (fun _ _ hh => hh) | with_reducible refine Fr.trans ?_ hf7 (fun _ _ hh => hh)))).mono ?_; rintro e w7 ⟨rfl, hf7⟩) | (go_at_call 23; refine (HWH.out _).mono ?_; rintro e w8 ⟨gq, Nq, rfl, hb8, hf8⟩) | (go_at_call 11; refine (HAD.out _ _ (by repeat (first | with_reducible exact Fr.refl _ _ | with_reducible refine Fr.drew ?_ | with_reducible refine Fr.trans ?_ hfA (fun _ _ hh => hh) | with_reducible refine Fr.trans ?_ hf9 (fun _ _ hh => hh) | with_reducible refine Fr.trans ?_ hf8 (fun _ _ hh => hh) | with_reducible refine Fr.trans ?_ hf7 (fun _ _ hh => hh))) (hb8.kept (by repeat (first | with_reducible exact Fr.refl _ _ | with_reducible refine Fr.drew ?_)))).mono ?_; rintro e w9 ⟨rfl, hf9⟩) | (go_at_call 20; refine (HNX.out _ (by repeat (first | with_reducible exact Fr.refl _ _ | with_reducible refine Fr.drew ?_ | with_reducible refine Fr.trans ?_ hfA (fun _ _ hh => hh) | with_reducible refine Fr.trans ?_ hf9 (fun _ _ hh => hh) | with_reducible refine Fr.trans ?_ hf8 (fun _ _ hh => hh) | with_reducible refine Fr.trans ?_ hf7 (fun _ _ hh => hh)))).mono ?_; rintro e wx ⟨rfl, hwx⟩; subst hwx) | (go_at_call 8; refine (wakes_any _).mono ?_; rintro e wA ⟨rfl, hfA⟩))
          all_goals go_wp2_with fail
          all_goals go_ret
          all_goals exact ⟨rfl, HFE.out.trans (by repeat (first | with_reducible exact Fr.refl _ _ | with_reducible refine Fr.drew ?_ | with_reducible refine Fr.trans ?_ hfA (fun _ _ hh => hh) | with_reducible refine Fr.trans ?_ hf9 (fun _ _ hh => hh) | with_reducible refine Fr.trans ?_ hf8 (fun _ _ hh => hh) | with_reducible refine Fr.trans ?_ hf7 (fun _ _ hh => hh))) (fun _ _ h => h)⟩
        · have e1 : decide (j < n) = false := decide_eq_false q1
          clear hjn
          go_wp2_with fail
          refine (end_rb wr HPA.out (Or.inl rfl)).mono ?_
          rintro e w3 ⟨g2, N, c2, rfl, ⟨hN, hr3⟩, hpe, hf3, hg3⟩
          have HNE : Hid (N = H * stride W) := hN
          have HFB : Hid (Fr (fun _ => False) w3 (w3.alloc (.cells #[.int .i64 W, .int .i64 H, .slice (some ⟨g2, 0, none⟩) N c2] 38))) := (Fr.refl _ _).alloc _
          have HKC : Hid ((w3.alloc (.cells #[.int .i64 W, .int .i64 H, .slice (some ⟨g2, 0, none⟩) N c2] 38)).heap[w3.heap.size]? = some (.cells #[.int .i64 W, .int .i64 H, .slice (some ⟨g2, 0, none⟩) N c2] 38 (0, 0))) := three_new _ _ _ _
          have HRC : Hid (RowAt (w3.alloc (.cells #[.int .i64 W, .int .i64 H, .slice (some ⟨g2, 0, none⟩) N c2] 38)) g2 c2 W H P) := hr3.kept HFB.out (fun h => h)
          have HPE : Hid (PgEnd (w3.alloc (.cells #[.int .i64 W, .int .i64 H, .slice (some ⟨g2, 0, none⟩) N c2] 38)) pa W H 0 0) := hpe.same HFB.out
          have HPB3 : Hid (PgAt (w3.alloc (.cells #[.int .i64 W, .int .i64 H, .slice (some ⟨g2, 0, none⟩) N c2] 38)) pb bb gb cb W H 0 0 0 P) := (HPB.out.far hf3 (fun e => HSP.out.pp e.symm) HSP.out.c1 HSP.out.c2).same HFB.out
          have HF3 : Hid (Fr (fun _ => False) w0 (w3.alloc (.cells #[.int .i64 W, .int .i64 H, .slice (some ⟨g2, 0, none⟩) N c2] 38))) := (HFr.out.new0 hf3 HSP.out.n1).trans HFB.out (fun _ _ h => h)
          have HNB : Hid (w3.heap.size ≠ pb ∧ g2 ≠ pb) := rows_same HPB.out.lt hf3.size hg3
          clear hN hr3 hpe hf3 hg3 HPA HPB HFr HFB c0 c1 c4 HC HF2 HP2 HFw
          go_wp2_with fail
          generalize w3.alloc (.cells #[.int .i64 W, .int .i64 H, .slice (some ⟨g2, 0, none⟩) N c2] 38) = w3' at *
          generalize w3.heap.size = oc at *
          refine (end_rb w3' HPB3.out (Or.inl rfl)).mono ?_
          rintro e w4 ⟨g4, N4, c4, rfl, ⟨hN4, hr4⟩, -, hf4, -⟩
          have HNE4 : Hid (N4 = H * stride W) := hN4
          have HFB : Hid (Fr (fun _ => False) w4 (w4.alloc (.cells #[.int .i64 W, .int .i64 H, .slice (some ⟨g4, 0, none⟩) N4 c4] 38))) := (Fr.refl _ _).alloc _
          have HKD : Hid ((w4.alloc (.cells #[.int .i64 W, .int .i64 H, .slice (some ⟨g4, 0, none⟩) N4 c4] 38)).heap[w4.heap.size]? = some (.cells #[.int .i64 W, .int .i64 H, .slice (some ⟨g4, 0, none⟩) N4 c4] 38 (0, 0))) := three_new _ _ _ _
          have HRD : Hid (RowAt (w4.alloc (.cells #[.int .i64 W, .int .i64 H, .slice (some ⟨g4, 0, none⟩) N4 c4] 38)) g4 c4 W H P) := hr4.kept HFB.out (fun h => h)
          have HRC4 : Hid (RowAt (w4.alloc (.cells #[.int .i64 W, .int .i64 H, .slice (some ⟨g4, 0, none⟩) N4 c4] 38)) g2 c2 W H P) := (HRC.out.kept hf4 HNB.out.2).kept HFB.out (fun h => h)
          have HKC4 : Hid ((w4.alloc (.cells #[.int .i64 W, .int .i64 H, .slice (some ⟨g4, 0, none⟩) N4 c4] 38)).heap[oc]? = some (.cells #[.int .i64 W, .int .i64 H, .slice (some ⟨g2, 0, none⟩) N c2] 38 (0, 0))) := blk_kept (blk_kept HKC.out hf4 HNB.out.1) HFB.out (fun h => h)
          have HPE4 : Hid (PgEnd (w4.alloc (.cells #[.int .i64 W, .int .i64 H, .slice (some ⟨g4, 0, none⟩) N4 c4] 38)) pa W H 0 0) := (HPE.out.kept hf4 HSP.out.pp).same HFB.out
          have HF4 : Hid (Fr (fun _ => False) w0 (w4.alloc (.cells #[.int .i64 W, .int .i64 H, .slice (some ⟨g4, 0, none⟩) N4 c4] 38))) := (HF3.out.new0 hf4 HSP.out.n3).trans HFB.out (fun _ _ h => h)
          clear hN4 hr4 hf4 HFB HRC HKC HPE HPB3 HF3 HNB
          go_wp2_with fail
          generalize w4.alloc (.cells #[.int .i64 W, .int .i64 H, .slice (some ⟨g4, 0, none⟩) N4 c4] 38) = w4' at *
          generalize w4.heap.size = od at *
          refine (end_ended w4' HPE4.out).mono ?_
          rintro e w5 ⟨rfl, hf5⟩
          have HF5 : Hid (Fr (fun _ => False) w4' (w5.alloc (.cells #[.int .i64 0, .int .i64 0, .slice none 0 0] 38))) := hf5.alloc _
          clear hf5
          go_upto_region 26 with (fail)
          generalize w5.alloc (.cells #[.int .i64 0, .int .i64 0, .slice none 0 0] 38) = w6 at *
          have HKS : Hid (∀ w', Fr (fun _ => False) w6 w' → (w'.cell? ⟨oc, 0, none⟩ = some (.int .i64 W) ∧ w'.cell? ⟨oc, 1, none⟩ = some (.int .i64 H) ∧ w'.cell? ⟨oc, 2, none⟩ = some (.slice (some ⟨g2, 0, none⟩) N c2)) ∧ (w'.cell? ⟨od, 0, none⟩ = some (.int .i64 W) ∧ w'.cell? ⟨od, 1, none⟩ = some (.int .i64 H) ∧ w'.cell? ⟨od, 2, none⟩ = some (.slice (some ⟨g4, 0, none⟩) N4 c4)) ∧ w'.cell? ⟨w.heap.size, 1, none⟩ = some (.int .i64 H)) := fun w' f => by
            have f4 : Fr (fun _ => False) w4' w' := HF5.out.trans f (fun _ _ h => h)
            exact ⟨three_cells HKC4.out f4 (fun h => h), three_cells HKD.out f4 (fun h => h), (HB0.out w' (HF4.out.trans f4 (fun _ _ h => h))).2.1⟩
          have HEQ : Hid (∀ w', Fr (fun _ => False) w6 w' → Calls Try.prog 18 #[.agg #[.int .i64 W, .int .i64 H, .slice (some ⟨g2, 0, none⟩) N c2], .agg #[.int .i64 W, .int .i64 H, .slice (some ⟨g4, 0, none⟩) N4 c4]] w' fun e w'' => e = .returned (.bool true) ∧ Fr (fun _ => False) w' w'') := fun w' f => by
            have f4 : Fr (fun _ => False) w4' w' := HF5.out.trans f (fun _ _ h => h)
            exact eq_rows HNE.out (HRC4.out.kept f4 (fun h => h)) HNE4.out (HRD.out.kept f4 (fun h => h)) HAR.out.1 HAR.out.2.1 HAR.out.2.2
          have HWH : Hid (∀ w' : World, Calls Try.prog 23 #[.int .i64 1, .int .i64 1] w' fun e w'' => ∃ gq N, e = .returned (.agg #[.int .i64 1, .int .i64 1, .slice (some ⟨gq, 0, none⟩) N N]) ∧ Bm w'' (.slice (some ⟨gq, 0, none⟩) N N) 1 1 (fun _ _ => false) ∧ Fr (fun _ => False) w' w'') := fun w' =>
            (white_rb 1 1 1 w' rfl (by decide) (by decide) (by decide)).mono fun e w'' ⟨gq, N, he, hr, hf, _⟩ => ⟨gq, N, he, hr.bm (by decide) (by decide) (by decide), hf⟩
          have HAD : Hid (∀ (w' : World) (v : Value), Fr (fun _ => False) w6 w' → Bm w' v 1 1 (fun _ _ => false) → Calls Try.prog 11 #[.pointer (some ⟨pa, 0, none⟩), .int .i64 0, .int .i64 H, .int .i64 0, .agg #[.int .i64 1, .int .i64 1, v]] w' fun e w'' => e = .returned (.int .i64 151) ∧ Fr (fun _ => False) w' w'') := fun w' v f hv =>
            add_ended 0 (H : Int) 0 1 1 v (fun _ _ => false) w' (HPE4.out.same (HF5.out.trans f (fun _ _ h => h))) (by decide) hv
          have HNX : Hid (∀ w', Fr (fun _ => False) w6 w' → Calls Try.prog 20 #[.pointer (some ⟨pa, 0, none⟩)] w' fun e w'' => e = .returned (.int .i64 H) ∧ w'' = w') := fun w' f => next_any (HPE4.out.same (HF5.out.trans f (fun _ _ h => h)))
          have hHH : ((H : Int) == (H : Int)) = true := by simp
          have HFE : Hid (Fr (fun _ => False) w w6) := HW0.out.trans (HF4.out.trans HF5.out (fun _ _ h => h)) (fun _ _ h => h)
          clear HF4 HF5 HRC4 HRD HKC4 HKD HPE4 HNE HNE4 HSP HB0 HW0 HAR hjq hl hW1 hH1 z1 z2 HJ
          go_region_held3 (fun w' => w'.cell? ⟨oc, 0, none⟩ = some (.int .i64 W) ∧ w'.cell? ⟨oc, 1, none⟩ = some (.int .i64 H) ∧ w'.cell? ⟨oc, 2, none⟩ = some (.slice (some ⟨g2, 0, none⟩) N c2) ∧ w'.cell? ⟨od, 0, none⟩ = some (.int .i64 W) ∧ w'.cell? ⟨od, 1, none⟩ = some (.int .i64 H) ∧ w'.cell? ⟨od, 2, none⟩ = some (.slice (some ⟨g4, 0, none⟩) N4 c4) ∧ w'.cell? ⟨w.heap.size, 1, none⟩ = some (.int .i64 H)) (exact (fun h => ⟨h.1.1, h.1.2.1, h.1.2.2, h.2.1.1, h.2.1.2.1, h.2.1.2.2, h.2.2⟩) (HKS.out _ (by repeat (first | with_reducible exact Fr.refl _ _ | with_reducible refine Fr.drew ?_ | with_reducible refine Fr.trans ?_ hfA (fun _ _ hh => hh) | with_reducible refine Fr.trans ?_ hf9 (fun _ _ hh => hh) | with_reducible refine Fr.trans ?_ hf8 (fun _ _ hh => hh) | with_reducible refine Fr.trans ?_ hf7 (fun _ _ hh => hh))))) (first | (go_at_call 18; refine (HEQ.out _ (by repeat (first | with_reducible exact Fr.refl _ _ | with_reducible refine Fr.drew ?_ | with_reducible refine Fr.trans ?_ hfA (fun _ _ hh => hh) | with_reducible refine Fr.trans ?_ hf9 (fun _ _ hh => hh) | with_reducible refine Fr.trans ?_ hf8 (fun _ _ hh => hh) | with_reducible refine Fr.trans ?_ hf7 (fun _ _ hh => hh)))).mono ?_; rintro e w7 ⟨rfl, hf7⟩) | (go_at_call 23; refine (HWH.out _).mono ?_; rintro e w8 ⟨gq, Nq, rfl, hb8, hf8⟩) | (go_at_call 11; refine (HAD.out _ _ (by repeat (first | with_reducible exact Fr.refl _ _ | with_reducible refine Fr.drew ?_ | with_reducible refine Fr.trans ?_ hfA (fun _ _ hh => hh) | with_reducible refine Fr.trans ?_ hf9 (fun _ _ hh => hh) | with_reducible refine Fr.trans ?_ hf8 (fun _ _ hh => hh) | with_reducible refine Fr.trans ?_ hf7 (fun _ _ hh => hh))) (hb8.kept (by repeat (first | with_reducible exact Fr.refl _ _ | with_reducible refine Fr.drew ?_)))).mono ?_; rintro e w9 ⟨rfl, hf9⟩) | (go_at_call 20; refine (HNX.out _ (by repeat (first | with_reducible exact Fr.refl _ _ | with_reducible refine Fr.drew ?_ | with_reducible refine Fr.trans ?_ hfA (fun _ _ hh => hh) | with_reducible refine Fr.trans ?_ hf9 (fun _ _ hh => hh) | with_reducible refine Fr.trans ?_ hf8 (fun _ _ hh => hh) | with_reducible refine Fr.trans ?_ hf7 (fun _ _ hh => hh)))).mono ?_; rintro e wx ⟨rfl, hwx⟩; subst hwx) | (go_at_call 8; refine (wakes_any _).mono ?_; rintro e wA ⟨rfl, hfA⟩))
          all_goals go_wp2_with fail
          all_goals go_ret
          all_goals exact ⟨rfl, HFE.out.trans (by repeat (first | with_reducible exact Fr.refl _ _ | with_reducible refine Fr.drew ?_ | with_reducible refine Fr.trans ?_ hfA (fun _ _ hh => hh) | with_reducible refine Fr.trans ?_ hf9 (fun _ _ hh => hh) | with_reducible refine Fr.trans ?_ hf8 (fun _ _ hh => hh) | with_reducible refine Fr.trans ?_ hf7 (fun _ _ hh => hh))) (fun _ _ h => h)⟩

end Go.Proofs.Ytejempbgpkeheaa
