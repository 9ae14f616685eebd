/- PageStripes: a bitmap, added stripe by stripe, makes the page that it makes in one piece. -/
import Derived.Test.YtejempbgpkeheaaSr
import Derived.Test.YtejempbgpkeheaaMay
import Derived.Deep.LoopGhost
import Derived.Deep.Cut
namespace Go.Proofs.Ytejempbgpkeheaa
open Go.RowKit

set_option maxRecDepth 100000 in
set_option maxHeartbeats 16000000 in
theorem stripes_any (W0 H0 D0 S0 : Int) (ao : Option Addr) (n cap : Nat) (dv : Value) (A : Nat → Th) (w : World) (h : ThsAt w ao n A) (hdv : ∃ p k c, dv = .slice p k c) :
    Calls Try.prog 4 #[.agg #[.int .i64 W0, .int .i64 H0, .int .i64 D0, .int .i64 S0, .slice ao n cap, dv]] w fun e w' => e = .returned (.bool true) ∧ Fr (fun _ => False) w w' := by
  have hl := h.len
  obtain ⟨dp, dk, dc, rfl⟩ := hdv
  have HC : Hid (∀ j, j < n → ∃ b off av cv, ao = some ⟨b, off, none⟩ ∧ ThOK w (A j) ∧ (A j).v = .slice av (A j).l.length cv ∧ ∀ w', Fr (fun _ => False) w w' → w'.cell? ⟨b, off + j * 7 + 2, none⟩ = some (.int .i64 (A j).y) ∧ w'.cell? ⟨b, off + j * 7 + 4, none⟩ = some (.int .i64 (A j).a) ∧ w'.cell? ⟨b, off + j * 7 + 5, none⟩ = some (.int .i64 (A j).b) ∧ w'.cell? ⟨b, off + j * 7 + 6, none⟩ = some (A j).v) := fun j hj => by
    have hok := h.ok j hj
    obtain ⟨av, cv, e1, _, _⟩ := hok.hv
    obtain ⟨b, off, e2, hc⟩ := h.cells (by omega)
    obtain ⟨k0, k1, k2, k3, k4, k5, k6⟩ := hc j hj
    exact ⟨b, off, av, cv, e2, hok, e1, fun w' f => ⟨by rw [f.cell (seen_lt k2) (fun h => h)]; exact k2, by rw [f.cell (seen_lt k4) (fun h => h)]; exact k4, by rw [f.cell (seen_lt k5) (fun h => h)]; exact k5, by rw [f.cell (seen_lt k6) (fun h => h)]; exact k6⟩⟩
  clear h
  have HB0 : Hid (∀ w', Fr (fun _ => False) (w.alloc (.cells #[.int .i64 W0, .int .i64 H0, .int .i64 D0, .int .i64 S0, .slice ao n cap, .slice dp dk dc] 27)) w' → w'.cell? ⟨w.heap.size, 4, none⟩ = some (.slice ao n cap)) := fun w' f => by
    have e := (f.block _ (by simp) (fun h => h)).trans (six_new w (.int .i64 W0) (.int .i64 H0) (.int .i64 D0) (.int .i64 S0) (.slice ao n cap) (.slice dp dk dc))
    obtain ⟨_, _, _, _, c4, _, _⟩ := cell_of_six e
    exact c4
  have HW0 : Hid (Fr (fun _ => False) w (w.alloc (.cells #[.int .i64 W0, .int .i64 H0, .int .i64 D0, .int .i64 S0, .slice ao n cap, .slice dp dk dc] 27))) := (Fr.refl _ _).alloc _
  go_enter Try.func4, Try.ntmps4
  go_wp2_with fail
  generalize w.alloc (.cells #[.int .i64 W0, .int .i64 H0, .int .i64 D0, .int .i64 S0, .slice ao n cap, .slice dp dk dc] 27) = w0 at *
  go_loopg [3, 4, 5, 6, 7, 8, 9, 10, 11, 12, 13] 4 (fun q i _ _ _ _ _ _ _ _ _ _ wr => ∃ j : Nat, j + q = 4 ∧ i = .int .i64 j ∧ Fr (fun _ => False) w0 wr)
  case atStart => exact ⟨0, by omega, rfl, Fr.refl _ _⟩
  case round =>
    obtain ⟨j, hjq, rfl, hfr⟩ := hrel
    have HFr : Hid (Fr (fun _ => False) w0 wr) := hfr
    clear hfr
    have bx := HB0.out wr HFr.out
    by_cases hjn : j < n ∧ j < 4
    · obtain ⟨hj1, hj2⟩ := hjn
      have d1 : decide (j < n) = true := decide_eq_true hj1
      have d2 : decide (j < 4) = true := decide_eq_true hj2
      obtain ⟨bq, off, av, cv, rfl, hok, hev, hk⟩ := HC.out j hj1
      rw [hev] at hk
      have HCL : Hid (∀ w', Fr (fun _ => False) w w' → w'.cell? ⟨bq, off + j * 7 + 2, none⟩ = some (.int .i64 (A j).y) ∧ w'.cell? ⟨bq, off + j * 7 + 4, none⟩ = some (.int .i64 (A j).a) ∧ w'.cell? ⟨bq, off + j * 7 + 5, none⟩ = some (.int .i64 (A j).b) ∧ w'.cell? ⟨bq, off + j * 7 + 6, none⟩ = some (.slice av (A j).l.length cv)) := hk
      have HFw : Hid (Fr (fun _ => False) w wr) := HW0.out.trans HFr.out (fun _ _ h => h)
      have hvs : Seen w (.slice av (A j).l.length cv) (A j).l := by have := hok.hv; rwa [hev] at this
      have hvc : CapOK (.slice av (A j).l.length cv) := by have := hok.hc; rwa [hev] at this
      have HMY : Hid (∀ w', Fr (fun _ => False) w w' → Calls Try.prog 21 #[.agg #[.int .i64 (A j).a, .int .i64 (A j).b, .slice av (A j).l.length cv]] w' fun e w'' => e = .returned (.bool (validB (A j).a (A j).b (A j).l)) ∧ Fr (fun _ => False) w' w'') := fun w' f => may_any (A j).a (A j).b _ (A j).l w' hok.ha hok.hb (hvs.kept f) hok.hlt
      have HVB : Hid (validB (A j).a (A j).b (A j).l = true → ∃ (Wb Hb : Nat) (B : Nat → Nat → Bool), (A j).a = Wb ∧ (A j).b = Hb ∧ (A j).l = render Wb Hb B ∧ Bm w (.slice av (A j).l.length cv) Wb Hb B) := fun hv => valid_bm hv hvs hvc hok.hlt
      have hyy : I64 (A j).y := hok.hy
      clear hk hok hev hvs hvc
      obtain ⟨ll, hll⟩ : ∃ ll, ll = (A j).l := ⟨_, rfl⟩
      rw [← hll] at HCL HMY HVB
      clear hll
      generalize (A j).a = xa at *
      generalize (A j).b = xb at *
      generalize (A j).y = yy at *
      obtain ⟨nl, hnl⟩ : ∃ nl, nl = ll.length := ⟨_, rfl⟩
      rw [← hnl] at HCL HMY HVB
      clear hnl
      obtain ⟨c2, c4, c5, c6⟩ := HCL.out wr HFw.out
      obtain ⟨m0, m1, m2, mf⟩ := cell_of_three (three_new wr (.int .i64 xa) (.int .i64 xb) (.slice av nl cv))
      have HB1 : Hid ((wr.alloc (.cells #[.int .i64 xa, .int .i64 xb, .slice av nl cv] 38)).heap[wr.heap.size]? = some (.cells #[.int .i64 xa, .int .i64 xb, .slice av nl cv] 38 (0, 0))) := three_new _ _ _ _
      have HF1 : Hid (Fr (fun _ => False) wr (wr.alloc (.cells #[.int .i64 xa, .int .i64 xb, .slice av nl cv] 38))) := (Fr.refl _ _).alloc _
      have HM1 : Hid (Calls Try.prog 21 #[.agg #[.int .i64 xa, .int .i64 xb, .slice av nl cv]] (wr.alloc (.cells #[.int .i64 xa, .int .i64 xb, .slice av nl cv] 38)) fun e w'' => e = .returned (.bool (validB xa xb ll)) ∧ Fr (fun _ => False) (wr.alloc (.cells #[.int .i64 xa, .int .i64 xb, .slice av nl cv] 38)) w'') := HMY.out _ (HFw.out.alloc _)
      cases hvb : validB xa xb ll with
      | false =>
        rw [hvb] at HM1
        go_wp2_with fail
        refine HM1.out.mono ?_
        rintro e w2 ⟨rfl, hf2⟩
        have HF2 : Hid (Fr (fun _ => False) w0 w2) := (HFr.out.alloc _).trans hf2 (fun _ _ h => h)
        go_wp2_with fail
        go_roundg (4 - (j + 1))
        case measure => omega
        case rel => exact ⟨j + 1, by omega, congrArg (Value.int .i64) (by omega), HF2.out⟩
      | true =>
        rw [hvb] at HM1
        obtain ⟨W, H, B, rfl, rfl, hrl, hbm⟩ := HVB.out hvb
        have HBM : Hid (Bm w (.slice av nl cv) W H B) := hbm
        obtain ⟨z1, z2, z3⟩ := size_facts hbm.h1 hbm.h2 hbm.h3
        have hW1 := hbm.h1
        have hH1 := hbm.h2
        have hWH := hbm.h3
        have HAR : Hid (1 ≤ W ∧ 1 ≤ H ∧ W * H ≤ 1048576 ∧ W ≤ 1048576 ∧ H ≤ 1048576 ∧ ll = render W H B) := ⟨hW1, hH1, hWH, z1, z2, hrl⟩
        have hmul : (W : Int) * (H : Int) = ((W * H : Nat) : Int) := by push_cast; rfl
        have hmulw : wrap64 ((W * H : Nat) : Int) = ((W * H : Nat) : Int) := wr64 (by omega)
        have hmulw2 : wrap64 ((W : Int) * (H : Int)) = ((W * H : Nat) : Int) := by rw [hmul]; exact hmulw
        clear hrl hbm z3 hmul
        generalize W * H = ar at *
        go_wp2_with fail
        refine HM1.out.mono ?_
        rintro e w2 ⟨rfl, hf2⟩
        have HF2 : Hid (Fr (fun _ => False) w0 w2) := (HFr.out.alloc _).trans hf2 (fun _ _ h => h)
        have HF2r : Hid (Fr (fun _ => False) (wr.alloc (.cells #[.int .i64 W, .int .i64 H, .slice av nl cv] 38)) w2) := hf2
        have HB2 : Hid (w2.heap[wr.heap.size]? = some (.cells #[.int .i64 W, .int .i64 H, .slice av nl cv] 38 (0, 0))) := three_kept HB1.out hf2 (fun h => h)
        clear hf2 m0 m1 m2 mf c2 c4 c5 c6 bx
        obtain ⟨m0, m1, m2⟩ := three_cells HB2.out (Fr.refl (fun _ => False) w2) (fun h => h)
        by_cases g1 : 2000 < ar
        · have d3 : decide ((2000 : Int) < ((ar : Nat) : Int)) = true := decide_eq_true (by omega)
          have d3' : decide (2000 < ar) = true := decide_eq_true (by omega)
          go_wp2_with fail
          go_roundg (4 - (j + 1))
          case measure => omega
          case rel => exact ⟨j + 1, by omega, congrArg (Value.int .i64) (by omega), HF2.out⟩
        by_cases g2 : 60 < H
        · have d3 : decide ((2000 : Int) < ((ar : Nat) : Int)) = false := decide_eq_false (by omega)
          have d3' : decide (2000 < ar) = false := decide_eq_false (by omega)
          have d4 : decide (60 < H) = true := decide_eq_true (by omega)
          go_wp2_with fail
          go_roundg (4 - (j + 1))
          case measure => omega
          case rel => exact ⟨j + 1, by omega, congrArg (Value.int .i64) (by omega), HF2.out⟩
        have d3 : decide ((2000 : Int) < ((ar : Nat) : Int)) = false := decide_eq_false (by omega)
        have d3' : decide (2000 < ar) = false := decide_eq_false (by omega)
        have d4 : decide (60 < H) = false := decide_eq_false (by omega)
        have bx := HB0.out w2 HF2.out
        have HFw2 : Hid (Fr (fun _ => False) w w2) := HW0.out.trans HF2.out (fun _ _ h => h)
        obtain ⟨c2, -, -, -⟩ := HCL.out w2 HFw2.out
        have hy1 : 0 ≤ yy % (H : Int) := Int.emod_nonneg _ (by omega)
        have hy2 : yy % (H : Int) < (H : Int) := Int.emod_lt_of_pos _ (by omega)
        have HWI : Hid (∀ w' : World, Calls Try.prog 22 #[.int .i64 yy, .int .i64 H] w' fun e w'' => e = .returned (.int .i64 (yy % (H : Int))) ∧ w'' = w') := fun w' => within_any yy H w' hyy (by omega) (by omega)
        obtain ⟨s, hs⟩ : ∃ s : Nat, 1 + yy % (H : Int) = s := ⟨(1 + yy % (H : Int)).toNat, by omega⟩
        have hsw : wrap64 (1 + yy % (H : Int)) = (s : Int) := by rw [hs]; exact wr64 (by omega)
        have hs1 : 1 ≤ s := by omega
        have hH60 : H ≤ 60 := Nat.le_of_not_lt g2
        have hs2 : s ≤ H := by omega
        have HN : Hid (∀ w' : World, Calls Try.prog 6 #[.agg #[.int .i64 W, .int .i64 H, .int .i64 1, .int .i64 s]] w' fun e w'' => ∃ p b g cap, e = .returned (.tuple #[.pointer (some ⟨p, 0, none⟩), .int .i64 0]) ∧ PgAt w'' p b g cap W H 1 s 0 (fun _ _ => true) ∧ Fr (fun _ => False) w' w'' ∧ w'.heap.size ≤ p ∧ w'.heap.size ≤ b ∧ w'.heap.size ≤ g) := fun w' => pnew_ok W H 1 s w' hW1 hH1 HBM.out.h3 (by omega) (by omega)
        clear hs hy1 hy2 HVB HMY HM1 HCL HC HF1 HB1 HFw
        generalize yy % (H : Int) = ym at *
        go_wp2_with fail
        go_quiet (first | (go_at_call 22; refine Calls.quiet_of_same (HWI.out _)))
        rw [hsw]
        go_wp2_with fail
        refine (HN.out _).mono ?_
        rintro e w3 ⟨p, b, g, cp, rfl, hp3, hf3, n1, n2, n3⟩
        have HF23 : Hid (Fr (fun _ => False) w2 w3) := ((Fr.refl _ _).drewN _).trans hf3 (fun _ _ h => h)
        have HF3 : Hid (Fr (fun _ => False) w0 w3) := HF2.out.trans HF23.out (fun _ _ h => h)
        have HB3 : Hid (w3.heap[wr.heap.size]? = some (.cells #[.int .i64 W, .int .i64 H, .slice av nl cv] 38 (0, 0))) := three_kept HB2.out HF23.out (fun h => h)
        have HV3 : Hid (Bm w3 (.slice av nl cv) W H B) := HBM.out.kept (HFw2.out.trans HF23.out (fun _ _ h => h))
        have HP3 : Hid (PgAt w3 p b g cp W H 1 s 0 (strP B 0)) := hp3.pix (fun _ _ _ _ => by unfold strP; rw [if_neg (by omega)])
        have HNW : Hid ((wr.heap.size < p ∧ wr.heap.size < b ∧ wr.heap.size < g) ∧ w0.heap.size ≤ p ∧ w0.heap.size ≤ b ∧ w0.heap.size ≤ g) := by
          have a1 := lt_of_block HB2.out
          have a2 := HF2.out.size
          have n1 : w2.heap.size ≤ p := n1
          have n2 : w2.heap.size ≤ b := n2
          have n3 : w2.heap.size ≤ g := n3
          exact ⟨⟨by omega, by omega, by omega⟩, by omega, by omega, by omega⟩
        have HAW : Hid (∀ h, h ≤ H → W * h ≤ 1048576) := fun h hh => Nat.le_trans (Nat.mul_le_mul_left W hh) HBM.out.h3
        have HBM0 : Hid (Bm w0 (.slice av nl cv) W H B) := HBM.out.kept HW0.out
        clear hp3 hf3 n1 n2 n3 HF2r HB2 HF23 HFw2 HBM HWI HN bx c2 m0 m1 m2 hsw hyy HF2
        generalize wr.heap.size = bb at *
        have HV : Hid (∀ w', Fr (fun k => k = p ∨ k = g) w3 w' → Bm w' (.slice av nl cv) W H B ∧ w'.heap[bb]? = some (.cells #[.int .i64 W, .int .i64 H, .slice av nl cv] 38 (0, 0)) ∧ Fr (fun _ => False) w0 w') := fun w' f => by
          have a1 := HNW.out
          have f0 : Fr (fun _ => False) w0 w' := HF3.out.trans f (fun i hi e => by rcases e with e | e <;> omega)
          exact ⟨HBM0.out.kept f0, three_kept HB3.out f (by omega), f0⟩
        go_wp2_with fail
        have HJ0 : Hid (j + gk = 4 ∧ j < 4) := ⟨hjq, hj2⟩
        go_loopg [8, 9, 10, 11, 12] H (fun q y _ _ _ _ wq => ∃ Y : Nat, q = H - Y ∧ Y ≤ 2 * H ∧ y = .int .i64 Y ∧ PgAt wq p b g cp W H 1 s (min Y H) (strP B (min Y H)) ∧ Fr (fun k => k = p ∨ k = g) w3 wq)
        case atStart => exact ⟨0, by omega, by omega, rfl, by rw [Nat.zero_min]; exact HP3.out, Fr.refl _ _⟩
        case round =>
          obtain ⟨Y, hq, hY2, rfl, hpg, hfq⟩ := hrel
          have HQ : Hid (gk = H - Y) := hq
          have HFq : Hid (Fr (fun k => k = p ∨ k = g) w3 wr) := hfq
          obtain ⟨m0, m1, m2, mf⟩ := cell_of_three (HV.out wr hfq).2.1
          clear hq hfq mf
          by_cases hYH : Y < H
          · have HPq : Hid (PgAt wr p b g cp W H 1 s Y (strP B Y)) := by
              have := hpg
              rwa [Nat.min_eq_left (by omega)] at this
            clear hpg
            have dY : decide (Y < H) = true := decide_eq_true hYH
            by_cases hc : (H : Int) - (Y : Int) < (s : Int)
            · obtain ⟨h, hsub, dc, dc1, dc2, hh1, hh2, hh3, hmi⟩ := st_a hYH hc
              have HMI : Hid (min (Y + s) H = Y + h) := hmi
              clear hmi hc
              have HST : Hid (StC W H Y h s) := ⟨hW1, hH1, hH60, hs1, hs2, hYH, hh1, hh2, hh3, Nat.le_trans hh2 hs2, HMI.out⟩
              go_wp2_with fail
              refine (white_rb W h h _ rfl hW1 hh1 (HAW.out h HST.out.kH)).mono ?_
              rintro e w4 ⟨gw, N, rfl, hr4, hf4, hg4⟩
              have HR4 : Hid (RB w4 gw N W h (fun _ _ => false)) := hr4
              have HF4 : Hid (Fr (fun k => k = p ∨ k = g) w3 w4) := HFq.out.more hf4
              have HP4 : Hid (PgAt w4 p b g cp W H 1 s Y (strP B Y)) := HPq.out.kept hf4 (fun h => h) (fun h => h) (fun h => h)
              have HG4 : Hid ((p ≠ gw ∧ g ≠ gw ∧ b ≠ gw ∧ w4.heap.size ≠ gw) ∧ w3.heap.size ≤ gw) := by
                exact nw4 HPq.out.lt HPq.out.map.lt HPq.out.map.glt HFq.out.size hg4 hr4.lt
              clear hr4 hf4 hg4 m0 m1 m2 HPq HFq hsub dc dc1 dc2
              obtain ⟨hy1, hs3, hs4, hy2, hy3, hy4, hng⟩ := st_w hH60 hYH hs2 hh3
              clear hjq hl hj1 hj2 z1 z2 hWH hY2 hh1 hh2 hh3 hmulw hmulw2 d3 d3' d4 g1 g2 hW1 hH1 hH60 hs1 hs2 hYH
              have HBw : Hid ((w4.alloc (.cells #[.int .i64 W, .int .i64 h, .slice (some ⟨gw, 0, none⟩) N N] 38)).heap[w4.heap.size]? = some (.cells #[.int .i64 W, .int .i64 h, .slice (some ⟨gw, 0, none⟩) N N] 38 (0, 0))) := three_new _ _ _ _
              have HFw : Hid (Fr (fun _ => False) w4 (w4.alloc (.cells #[.int .i64 W, .int .i64 h, .slice (some ⟨gw, 0, none⟩) N N] 38))) := (Fr.refl _ _).alloc _
              obtain ⟨m0, m1, m2, mf⟩ := cell_of_three (HV.out _ (HF4.out.more HFw.out)).2.1
              obtain ⟨k0, k1, k2, kf⟩ := cell_of_three HBw.out
              have HLY : Hid (Calls Try.prog 24 #[.agg #[.int .i64 W, .int .i64 h, .slice (some ⟨gw, 0, none⟩) N N], .int .i64 0, .int .i64 (-(Y : Int)), .int .i64 4, .agg #[.int .i64 W, .int .i64 H, .slice av nl cv]] (w4.alloc (.cells #[.int .i64 W, .int .i64 h, .slice (some ⟨gw, 0, none⟩) N N] 38)) fun e w' => e = .returned (.tuple #[]) ∧ RB w' gw N W h (fun x y => B x (y + Y)) ∧ Fr (fun k => k = gw) (w4.alloc (.cells #[.int .i64 W, .int .i64 h, .slice (some ⟨gw, 0, none⟩) N N] 38)) w') := by
                refine (lay_rb 4 (by decide) W h gw N (fun _ _ => false) 0 (-(Y : Int)) W H (.slice av nl cv) B _ (HR4.out.kept HFw.out (fun h => h)) (fun w' f => (HV.out w' ((HF4.out.more HFw.out).newer f HG4.out.2)).1) HST.out.w1 HST.out.k1 (HAW.out h HST.out.kH) i64_zero (i64_neg HST.out.hH HST.out.yH)).mono ?_
                rintro e w' ⟨he, hr, hf⟩
                exact ⟨he, hr.pix (str_lay B _ HST.out.k3), hf⟩
              go_wp2_with fail
              refine HLY.out.mono ?_
              rintro e w5 ⟨rfl, hr5, hf5⟩
              have HR5 : Hid (RB w5 gw N W h (fun x y => B x (y + Y))) := hr5
              have HF5 : Hid (Fr (fun k => k = p ∨ k = g) w3 w5) := (HF4.out.more HFw.out).newer hf5 HG4.out.2
              have HP5 : Hid (PgAt w5 p b g cp W H 1 s Y (strP B Y)) := (HP4.out.kept HFw.out (fun h => h) (fun h => h) (fun h => h)).kept hf5 HG4.out.1.1 HG4.out.1.2.2.1 HG4.out.1.2.1
              have HK5 : Hid (w5.heap[w4.heap.size]? = some (.cells #[.int .i64 W, .int .i64 h, .slice (some ⟨gw, 0, none⟩) N N] 38 (0, 0))) := three_kept HBw.out hf5 HG4.out.1.2.2.2
              have HPY : Hid (∀ w', Fr (fun _ => False) w5 w' → PgAt w' p b g cp W H 1 s Y (strP B Y)) := fun w' f => HP5.out.kept f (fun h => h) (fun h => h) (fun h => h)
              clear hr5 hf5 HLY HBw HFw HR4 HP4 HF4 m0 m1 m2 mf k0 k1 k2 kf hng
              obtain ⟨m0, m1, m2, mf⟩ := cell_of_three (HV.out _ HF5.out).2.1
              have HW1 : Hid (∀ w' : World, Calls Try.prog 23 #[.int .i64 W, .int .i64 1] w' fun e w'' => ∃ gq N, e = .returned (.agg #[.int .i64 W, .int .i64 1, .slice (some ⟨gq, 0, none⟩) N N]) ∧ Bm w'' (.slice (some ⟨gq, 0, none⟩) N N) W 1 (fun _ _ => false) ∧ Fr (fun _ => False) w' w'') := fun w' =>
                (white_rb W 1 1 w' rfl HST.out.w1 (by decide) (HAW.out 1 HST.out.h1)).mono fun e w'' ⟨gq, N, he, hr, hf, _⟩ => ⟨gq, N, he, hr.bm HST.out.w1 (by decide) (HAW.out 1 HST.out.h1), hf⟩
              have HW2 : Hid (∀ w' : World, Calls Try.prog 23 #[.int .i64 1, .int .i64 ((s : Int) + 1)] w' fun e w'' => ∃ gq N, e = .returned (.agg #[.int .i64 1, .int .i64 ((s : Int) + 1), .slice (some ⟨gq, 0, none⟩) N N]) ∧ Bm w'' (.slice (some ⟨gq, 0, none⟩) N N) 1 (s + 1) (fun _ _ => false) ∧ Fr (fun _ => False) w' w'') := fun w' =>
                (white_rb 1 (s + 1) ((s : Int) + 1) w' rfl (by decide) (Nat.succ_le_succ (Nat.zero_le _)) (st_small HST.out.hH HST.out.s2)).mono fun e w'' ⟨gq, N, he, hr, hf, _⟩ => ⟨gq, N, he, hr.bm (by decide) (Nat.succ_le_succ (Nat.zero_le _)) (st_small HST.out.hH HST.out.s2), hf⟩
              have HA1 : Hid (∀ (w' : World) (v : Value), Fr (fun _ => False) w5 w' → Bm w' v W 1 (fun _ _ => false) → Calls Try.prog 11 #[.pointer (some ⟨p, 0, none⟩), .int .i64 0, .int .i64 ((Y : Int) - 1), .int .i64 4, .agg #[.int .i64 W, .int .i64 1, v]] w' fun e w'' => e = .returned (.int .i64 151) ∧ Fr (fun _ => False) w' w'') := fun w' v f hv => add_hold 0 ((Y : Int) - 1) 4 W 1 v _ w' (HPY.out w' f) (by decide) hv (hold_up s)
              have HA2 : Hid (∀ (w' : World) (v : Value), Fr (fun _ => False) w5 w' → Bm w' v 1 (s + 1) (fun _ _ => false) → Calls Try.prog 11 #[.pointer (some ⟨p, 0, none⟩), .int .i64 0, .int .i64 Y, .int .i64 2, .agg #[.int .i64 1, .int .i64 ((s : Int) + 1), v]] w' fun e w'' => e = .returned (.int .i64 151) ∧ Fr (fun _ => False) w' w'') := fun w' v f hv => add_hold 0 (Y : Int) 2 1 (s + 1) v _ w' (HPY.out w' f) (by decide) hv (hold_far Y HST.out.s1)
              clear HP5
              go_upto_region 18 with (fail)
              go_cut [124] from 100 to 123 (fun u wc => u = .bool false ∧ Fr (fun _ => False) w5 wc)
              case first =>
                clear d1 d2 dY
                by_cases hY0 : 0 < Y
                · have dy0 : decide ((0 : Int) < (Y : Int)) = true := decide_eq_true (Int.ofNat_lt.2 hY0)
                  have dy1 : decide (0 < Y) = true := decide_eq_true hY0
                  go_wp2_with fail
                  refine (HW1.out _).mono ?_
                  rintro e w6 ⟨gq, N6, rfl, hb6, hf6⟩
                  have HB6 : Hid (Bm w6 (.slice (some ⟨gq, 0, none⟩) N6 N6) W 1 (fun _ _ => false)) := hb6
                  have HF6 : Hid (Fr (fun _ => False) w5 w6) := hf6
                  clear hb6 hf6
                  go_wp2_with fail
                  refine (HA1.out _ _ HF6.out HB6.out).mono ?_
                  rintro e w7 ⟨rfl, hf7⟩
                  have HF7 : Hid (Fr (fun _ => False) w5 w7) := HF6.out.trans hf7 (fun _ _ h => h)
                  clear hf7 HB6
                  go_wp2_with fail
                  refine (HW2.out _).mono ?_
                  rintro e w8 ⟨gr, N8, rfl, hb8, hf8⟩
                  have HB8 : Hid (Bm w8 (.slice (some ⟨gr, 0, none⟩) N8 N8) 1 (s + 1) (fun _ _ => false)) := hb8
                  have HF8 : Hid (Fr (fun _ => False) w5 w8) := HF7.out.trans hf8 (fun _ _ h => h)
                  clear hb8 hf8
                  go_wp2_with fail
                  refine (HA2.out _ _ HF8.out HB8.out).mono ?_
                  rintro e w9 ⟨rfl, hf9⟩
                  have HF9 : Hid (Fr (fun _ => False) w5 w9) := HF8.out.trans hf9 (fun _ _ h => h)
                  clear hf9
                  go_wp2_with fail
                  go_meet
                  exact ⟨rfl, HF9.out⟩
                · have dy0 : decide ((0 : Int) < (Y : Int)) = false := decide_eq_false (fun e => hY0 (Int.ofNat_lt.1 e))
                  have dy1 : decide (0 < Y) = false := decide_eq_false hY0
                  go_wp2_with fail
                  refine (HW2.out _).mono ?_
                  rintro e w8 ⟨gr, N8, rfl, hb8, hf8⟩
                  have HB8 : Hid (Bm w8 (.slice (some ⟨gr, 0, none⟩) N8 N8) 1 (s + 1) (fun _ _ => false)) := hb8
                  have HF8 : Hid (Fr (fun _ => False) w5 w8) := hf8
                  clear hb8 hf8
                  go_wp2_with fail
                  refine (HA2.out _ _ HF8.out HB8.out).mono ?_
                  rintro e w9 ⟨rfl, hf9⟩
                  have HF9 : Hid (Fr (fun _ => False) w5 w9) := HF8.out.trans hf9 (fun _ _ h => h)
                  clear hf9
                  go_wp2_with fail
                  go_meet
                  exact ⟨rfl, HF9.out⟩
              case rest =>
                obtain ⟨rfl, hfc⟩ := hcut
                have HFC : Hid (Fr (fun _ => False) w5 wc) := hfc
                clear hfc HW1 HW2 HA1 HA2 hy1 hs3 hs4 m0 m1 m2 mf
                go_wp2_with fail
                refine (end_no wc (HPY.out wc HFC.out) HST.out.s0 HST.out.yH).mono ?_
                rintro e w6 ⟨rfl, hf6⟩
                have HFD : Hid (Fr (fun _ => False) w5 (w6.alloc (.cells #[.int .i64 0, .int .i64 0, .slice none 0 0] 38))) := (HFC.out.trans hf6 (fun _ _ h => h)).alloc _
                obtain ⟨k0, k1, k2, kf⟩ := cell_of_three (three_kept HK5.out HFD.out (fun h => h))
                have HR6 : Hid (RB (w6.alloc (.cells #[.int .i64 0, .int .i64 0, .slice none 0 0] 38)) gw N W h (fun x y => B x (y + Y))) := HR5.out.kept HFD.out (fun h => h)
                clear hf6 HR5
                have hyy : ((Y : Int) != (Y : Int)) = false := by simp
                go_wp2_with fail
                refine (next_any (HPY.out _ HFD.out).blk).mono ?_
                rintro e w7 ⟨rfl, hw7⟩
                subst hw7
                have HAD : Hid (Calls Try.prog 11 #[.pointer (some ⟨p, 0, none⟩), .int .i64 0, .int .i64 Y, .int .i64 4, .agg #[.int .i64 W, .int .i64 h, .slice (some ⟨gw, 0, none⟩) N N]] (w6.alloc (.cells #[.int .i64 0, .int .i64 0, .slice none 0 0] 38)) fun e w' => e = .returned (.int .i64 0) ∧ PgAt w' p b g cp W H 1 s Y (strP B (Y + h)) ∧ Fr (fun k => k = g) (w6.alloc (.cells #[.int .i64 0, .int .i64 0, .slice none 0 0] 38)) w') :=
                  (add_ok 0 (Y : Int) 4 W h _ (fun x y => B x (y + Y)) _ (HPY.out _ HFD.out) (by decide) (HR6.out.bm HST.out.w1 HST.out.k1 (HAW.out h HST.out.kH)) i64_zero (i64_nat HST.out.hH HST.out.yH) (hold_in HST.out.k2)).mono fun e w' ⟨he, hp, hf⟩ => ⟨he, hp.pix (str_add B W H Y h), hf⟩
                go_wp2_with fail
                refine HAD.out.mono ?_
                rintro e w8 ⟨rfl, hp8, hf8⟩
                have HP8 : Hid (PgAt w8 p b g cp W H 1 s Y (strP B (Y + h))) := hp8
                have HF8 : Hid (Fr (fun k => k = p ∨ k = g) w3 w8) := (HF5.out.more HFD.out).kg hf8
                clear hp8 hf8 HAD HR6 HPY HFD HF5 HFC k0 k1 k2 kf
                go_wp2_with fail
                refine (stripe_no HP8.out.blk ((Y : Int) + (h : Int)) HST.out.Yl HST.out.sl HST.out.Hl (stripe_more HST.out.mi)).mono ?_
                rintro e w9 ⟨rfl, kk, rfl⟩
                go_wp2_with fail
                refine (stripe_ok (HP8.out.kept (S := fun _ => False) ((Fr.refl _ _).drewN _) (fun h => h) (fun h => h) (fun h => h)) ((Y : Int) + (h : Int) - 1) (stripe_just HST.out.s1 HST.out.yH HST.out.mi)).mono ?_
                rintro e w10 ⟨rfl, hp10, hf10⟩
                have HPX : Hid (PgAt w10 p b g cp W H 1 s (min (Y + s) H) (strP B (min (Y + s) H))) := by
                  have := hp10
                  have e := HST.out.mi
                  rw [e] at this ⊢
                  exact this
                have HFX : Hid (Fr (fun k => k = p ∨ k = g) w3 w10) := (HF8.out.drewN _).kp hf10
                clear hp10 hf10
                go_wp2_with fail
                go_roundg (H - (Y + s))
                case measure => exact HST.out.me HQ.out
                case rel => exact ⟨Y + s, rfl, HST.out.y2, congrArg (Value.int .i64) (hy4.trans (Int.natCast_add Y s).symm), HPX.out, HFX.out⟩
            · obtain ⟨dc, hh3, hmi⟩ := st_b hYH hc
              have HMI : Hid (min (Y + s) H = Y + s) := hmi
              have hh1 : 1 ≤ s := hs1
              have hh2 : s ≤ s := Nat.le_refl _
              have dc1 : ¬ (H : Int) - (Y : Int) < (s : Int) := hc
              have dc2 := True.intro
              have hsub := True.intro
              clear hmi hc
              have HST : Hid (StC W H Y s s) := ⟨hW1, hH1, hH60, hs1, hs2, hYH, hh1, hh2, hh3, Nat.le_trans hh2 hs2, HMI.out⟩
              go_wp2_with fail
              refine (white_rb W s s _ rfl hW1 hh1 (HAW.out s HST.out.kH)).mono ?_
              rintro e w4 ⟨gw, N, rfl, hr4, hf4, hg4⟩
              have HR4 : Hid (RB w4 gw N W s (fun _ _ => false)) := hr4
              have HF4 : Hid (Fr (fun k => k = p ∨ k = g) w3 w4) := HFq.out.more hf4
              have HP4 : Hid (PgAt w4 p b g cp W H 1 s Y (strP B Y)) := HPq.out.kept hf4 (fun s => s) (fun s => s) (fun s => s)
              have HG4 : Hid ((p ≠ gw ∧ g ≠ gw ∧ b ≠ gw ∧ w4.heap.size ≠ gw) ∧ w3.heap.size ≤ gw) := by
                exact nw4 HPq.out.lt HPq.out.map.lt HPq.out.map.glt HFq.out.size hg4 hr4.lt
              clear hr4 hf4 hg4 m0 m1 m2 HPq HFq hsub dc dc1 dc2
              obtain ⟨hy1, hs3, hs4, hy2, hy3, hy4, hng⟩ := st_w hH60 hYH hs2 hh3
              clear hjq hl hj1 hj2 z1 z2 hWH hY2 hh1 hh2 hh3 hmulw hmulw2 d3 d3' d4 g1 g2 hW1 hH1 hH60 hs1 hs2 hYH
              have HBw : Hid ((w4.alloc (.cells #[.int .i64 W, .int .i64 s, .slice (some ⟨gw, 0, none⟩) N N] 38)).heap[w4.heap.size]? = some (.cells #[.int .i64 W, .int .i64 s, .slice (some ⟨gw, 0, none⟩) N N] 38 (0, 0))) := three_new _ _ _ _
              have HFw : Hid (Fr (fun _ => False) w4 (w4.alloc (.cells #[.int .i64 W, .int .i64 s, .slice (some ⟨gw, 0, none⟩) N N] 38))) := (Fr.refl _ _).alloc _
              obtain ⟨m0, m1, m2, mf⟩ := cell_of_three (HV.out _ (HF4.out.more HFw.out)).2.1
              obtain ⟨k0, k1, k2, kf⟩ := cell_of_three HBw.out
              have HLY : Hid (Calls Try.prog 24 #[.agg #[.int .i64 W, .int .i64 s, .slice (some ⟨gw, 0, none⟩) N N], .int .i64 0, .int .i64 (-(Y : Int)), .int .i64 4, .agg #[.int .i64 W, .int .i64 H, .slice av nl cv]] (w4.alloc (.cells #[.int .i64 W, .int .i64 s, .slice (some ⟨gw, 0, none⟩) N N] 38)) fun e w' => e = .returned (.tuple #[]) ∧ RB w' gw N W s (fun x y => B x (y + Y)) ∧ Fr (fun k => k = gw) (w4.alloc (.cells #[.int .i64 W, .int .i64 s, .slice (some ⟨gw, 0, none⟩) N N] 38)) w') := by
                refine (lay_rb 4 (by decide) W s gw N (fun _ _ => false) 0 (-(Y : Int)) W H (.slice av nl cv) B _ (HR4.out.kept HFw.out (fun s => s)) (fun w' f => (HV.out w' ((HF4.out.more HFw.out).newer f HG4.out.2)).1) HST.out.w1 HST.out.k1 (HAW.out s HST.out.kH) i64_zero (i64_neg HST.out.hH HST.out.yH)).mono ?_
                rintro e w' ⟨he, hr, hf⟩
                exact ⟨he, hr.pix (str_lay B _ HST.out.k3), hf⟩
              go_wp2_with fail
              refine HLY.out.mono ?_
              rintro e w5 ⟨rfl, hr5, hf5⟩
              have HR5 : Hid (RB w5 gw N W s (fun x y => B x (y + Y))) := hr5
              have HF5 : Hid (Fr (fun k => k = p ∨ k = g) w3 w5) := (HF4.out.more HFw.out).newer hf5 HG4.out.2
              have HP5 : Hid (PgAt w5 p b g cp W H 1 s Y (strP B Y)) := (HP4.out.kept HFw.out (fun s => s) (fun s => s) (fun s => s)).kept hf5 HG4.out.1.1 HG4.out.1.2.2.1 HG4.out.1.2.1
              have HK5 : Hid (w5.heap[w4.heap.size]? = some (.cells #[.int .i64 W, .int .i64 s, .slice (some ⟨gw, 0, none⟩) N N] 38 (0, 0))) := three_kept HBw.out hf5 HG4.out.1.2.2.2
              have HPY : Hid (∀ w', Fr (fun _ => False) w5 w' → PgAt w' p b g cp W H 1 s Y (strP B Y)) := fun w' f => HP5.out.kept f (fun s => s) (fun s => s) (fun s => s)
              clear hr5 hf5 HLY HBw HFw HR4 HP4 HF4 m0 m1 m2 mf k0 k1 k2 kf hng
              obtain ⟨m0, m1, m2, mf⟩ := cell_of_three (HV.out _ HF5.out).2.1
              have HW1 : Hid (∀ w' : World, Calls Try.prog 23 #[.int .i64 W, .int .i64 1] w' fun e w'' => ∃ gq N, e = .returned (.agg #[.int .i64 W, .int .i64 1, .slice (some ⟨gq, 0, none⟩) N N]) ∧ Bm w'' (.slice (some ⟨gq, 0, none⟩) N N) W 1 (fun _ _ => false) ∧ Fr (fun _ => False) w' w'') := fun w' =>
                (white_rb W 1 1 w' rfl HST.out.w1 (by decide) (HAW.out 1 HST.out.h1)).mono fun e w'' ⟨gq, N, he, hr, hf, _⟩ => ⟨gq, N, he, hr.bm HST.out.w1 (by decide) (HAW.out 1 HST.out.h1), hf⟩
              have HW2 : Hid (∀ w' : World, Calls Try.prog 23 #[.int .i64 1, .int .i64 ((s : Int) + 1)] w' fun e w'' => ∃ gq N, e = .returned (.agg #[.int .i64 1, .int .i64 ((s : Int) + 1), .slice (some ⟨gq, 0, none⟩) N N]) ∧ Bm w'' (.slice (some ⟨gq, 0, none⟩) N N) 1 (s + 1) (fun _ _ => false) ∧ Fr (fun _ => False) w' w'') := fun w' =>
                (white_rb 1 (s + 1) ((s : Int) + 1) w' rfl (by decide) (Nat.succ_le_succ (Nat.zero_le _)) (st_small HST.out.hH HST.out.s2)).mono fun e w'' ⟨gq, N, he, hr, hf, _⟩ => ⟨gq, N, he, hr.bm (by decide) (Nat.succ_le_succ (Nat.zero_le _)) (st_small HST.out.hH HST.out.s2), hf⟩
              have HA1 : Hid (∀ (w' : World) (v : Value), Fr (fun _ => False) w5 w' → Bm w' v W 1 (fun _ _ => false) → Calls Try.prog 11 #[.pointer (some ⟨p, 0, none⟩), .int .i64 0, .int .i64 ((Y : Int) - 1), .int .i64 4, .agg #[.int .i64 W, .int .i64 1, v]] w' fun e w'' => e = .returned (.int .i64 151) ∧ Fr (fun _ => False) w' w'') := fun w' v f hv => add_hold 0 ((Y : Int) - 1) 4 W 1 v _ w' (HPY.out w' f) (by decide) hv (hold_up s)
              have HA2 : Hid (∀ (w' : World) (v : Value), Fr (fun _ => False) w5 w' → Bm w' v 1 (s + 1) (fun _ _ => false) → Calls Try.prog 11 #[.pointer (some ⟨p, 0, none⟩), .int .i64 0, .int .i64 Y, .int .i64 2, .agg #[.int .i64 1, .int .i64 ((s : Int) + 1), v]] w' fun e w'' => e = .returned (.int .i64 151) ∧ Fr (fun _ => False) w' w'') := fun w' v f hv => add_hold 0 (Y : Int) 2 1 (s + 1) v _ w' (HPY.out w' f) (by decide) hv (hold_far Y HST.out.s1)
              clear HP5
              go_upto_region 18 with (fail)
              go_cut [124] from 100 to 123 (fun u wc => u = .bool false ∧ Fr (fun _ => False) w5 wc)
              case first =>
                clear d1 d2 dY
                by_cases hY0 : 0 < Y
                · have dy0 : decide ((0 : Int) < (Y : Int)) = true := decide_eq_true (Int.ofNat_lt.2 hY0)
                  have dy1 : decide (0 < Y) = true := decide_eq_true hY0
                  go_wp2_with fail
                  refine (HW1.out _).mono ?_
                  rintro e w6 ⟨gq, N6, rfl, hb6, hf6⟩
                  have HB6 : Hid (Bm w6 (.slice (some ⟨gq, 0, none⟩) N6 N6) W 1 (fun _ _ => false)) := hb6
                  have HF6 : Hid (Fr (fun _ => False) w5 w6) := hf6
                  clear hb6 hf6
                  go_wp2_with fail
                  refine (HA1.out _ _ HF6.out HB6.out).mono ?_
                  rintro e w7 ⟨rfl, hf7⟩
                  have HF7 : Hid (Fr (fun _ => False) w5 w7) := HF6.out.trans hf7 (fun _ _ s => s)
                  clear hf7 HB6
                  go_wp2_with fail
                  refine (HW2.out _).mono ?_
                  rintro e w8 ⟨gr, N8, rfl, hb8, hf8⟩
                  have HB8 : Hid (Bm w8 (.slice (some ⟨gr, 0, none⟩) N8 N8) 1 (s + 1) (fun _ _ => false)) := hb8
                  have HF8 : Hid (Fr (fun _ => False) w5 w8) := HF7.out.trans hf8 (fun _ _ s => s)
                  clear hb8 hf8
                  go_wp2_with fail
                  refine (HA2.out _ _ HF8.out HB8.out).mono ?_
                  rintro e w9 ⟨rfl, hf9⟩
                  have HF9 : Hid (Fr (fun _ => False) w5 w9) := HF8.out.trans hf9 (fun _ _ s => s)
                  clear hf9
                  go_wp2_with fail
                  go_meet
                  exact ⟨rfl, HF9.out⟩
                · have dy0 : decide ((0 : Int) < (Y : Int)) = false := decide_eq_false (fun e => hY0 (Int.ofNat_lt.1 e))
                  have dy1 : decide (0 < Y) = false := decide_eq_false hY0
                  go_wp2_with fail
                  refine (HW2.out _).mono ?_
                  rintro e w8 ⟨gr, N8, rfl, hb8, hf8⟩
                  have HB8 : Hid (Bm w8 (.slice (some ⟨gr, 0, none⟩) N8 N8) 1 (s + 1) (fun _ _ => false)) := hb8
                  have HF8 : Hid (Fr (fun _ => False) w5 w8) := hf8
                  clear hb8 hf8
                  go_wp2_with fail
                  refine (HA2.out _ _ HF8.out HB8.out).mono ?_
                  rintro e w9 ⟨rfl, hf9⟩
                  have HF9 : Hid (Fr (fun _ => False) w5 w9) := HF8.out.trans hf9 (fun _ _ s => s)
                  clear hf9
                  go_wp2_with fail
                  go_meet
                  exact ⟨rfl, HF9.out⟩
              case rest =>
                obtain ⟨rfl, hfc⟩ := hcut
                have HFC : Hid (Fr (fun _ => False) w5 wc) := hfc
                clear hfc HW1 HW2 HA1 HA2 hy1 hs3 hs4 m0 m1 m2 mf
                go_wp2_with fail
                refine (end_no wc (HPY.out wc HFC.out) HST.out.s0 HST.out.yH).mono ?_
                rintro e w6 ⟨rfl, hf6⟩
                have HFD : Hid (Fr (fun _ => False) w5 (w6.alloc (.cells #[.int .i64 0, .int .i64 0, .slice none 0 0] 38))) := (HFC.out.trans hf6 (fun _ _ s => s)).alloc _
                obtain ⟨k0, k1, k2, kf⟩ := cell_of_three (three_kept HK5.out HFD.out (fun s => s))
                have HR6 : Hid (RB (w6.alloc (.cells #[.int .i64 0, .int .i64 0, .slice none 0 0] 38)) gw N W s (fun x y => B x (y + Y))) := HR5.out.kept HFD.out (fun s => s)
                clear hf6 HR5
                have hyy : ((Y : Int) != (Y : Int)) = false := by simp
                go_wp2_with fail
                refine (next_any (HPY.out _ HFD.out).blk).mono ?_
                rintro e w7 ⟨rfl, hw7⟩
                subst hw7
                have HAD : Hid (Calls Try.prog 11 #[.pointer (some ⟨p, 0, none⟩), .int .i64 0, .int .i64 Y, .int .i64 4, .agg #[.int .i64 W, .int .i64 s, .slice (some ⟨gw, 0, none⟩) N N]] (w6.alloc (.cells #[.int .i64 0, .int .i64 0, .slice none 0 0] 38)) fun e w' => e = .returned (.int .i64 0) ∧ PgAt w' p b g cp W H 1 s Y (strP B (Y + s)) ∧ Fr (fun k => k = g) (w6.alloc (.cells #[.int .i64 0, .int .i64 0, .slice none 0 0] 38)) w') :=
                  (add_ok 0 (Y : Int) 4 W s _ (fun x y => B x (y + Y)) _ (HPY.out _ HFD.out) (by decide) (HR6.out.bm HST.out.w1 HST.out.k1 (HAW.out s HST.out.kH)) i64_zero (i64_nat HST.out.hH HST.out.yH) (hold_in HST.out.k2)).mono fun e w' ⟨he, hp, hf⟩ => ⟨he, hp.pix (str_add B W H Y s), hf⟩
                go_wp2_with fail
                refine HAD.out.mono ?_
                rintro e w8 ⟨rfl, hp8, hf8⟩
                have HP8 : Hid (PgAt w8 p b g cp W H 1 s Y (strP B (Y + s))) := hp8
                have HF8 : Hid (Fr (fun k => k = p ∨ k = g) w3 w8) := (HF5.out.more HFD.out).kg hf8
                clear hp8 hf8 HAD HR6 HPY HFD HF5 HFC k0 k1 k2 kf
                go_wp2_with fail
                refine (stripe_no HP8.out.blk ((Y : Int) + (s : Int)) HST.out.Yl HST.out.sl HST.out.Hl (stripe_more HST.out.mi)).mono ?_
                rintro e w9 ⟨rfl, kk, rfl⟩
                go_wp2_with fail
                refine (stripe_ok (HP8.out.kept (S := fun _ => False) ((Fr.refl _ _).drewN _) (fun s => s) (fun s => s) (fun s => s)) ((Y : Int) + (s : Int) - 1) (stripe_just HST.out.s1 HST.out.yH HST.out.mi)).mono ?_
                rintro e w10 ⟨rfl, hp10, hf10⟩
                have HPX : Hid (PgAt w10 p b g cp W H 1 s (min (Y + s) H) (strP B (min (Y + s) H))) := by
                  have := hp10
                  have e := HST.out.mi
                  rw [e] at this ⊢
                  exact this
                have HFX : Hid (Fr (fun k => k = p ∨ k = g) w3 w10) := (HF8.out.drewN _).kp hf10
                clear hp10 hf10
                go_wp2_with fail
                go_roundg (H - (Y + s))
                case measure => exact HST.out.me HQ.out
                case rel => exact ⟨Y + s, rfl, HST.out.y2, congrArg (Value.int .i64) (hy4.trans (Int.natCast_add Y s).symm), HPX.out, HFX.out⟩
          · have HPq : Hid (PgAt wr p b g cp W H 1 s H (strP B H)) := by
              have := hpg
              rwa [Nat.min_eq_right (Nat.le_of_not_lt hYH)] at this
            have dY : decide (Y < H) = false := decide_eq_false hYH
            have HJ := HJ0
            clear hpg
            go_wp2_with fail
            refine (end_rb wr HPq.out (Or.inr rfl)).mono ?_
            rintro e w4 ⟨g2, N, c2, rfl, ⟨hN, hr4⟩, hpe, hf4, hg4⟩
            have HF4 : Hid (Fr (fun k => k = p ∨ k = g) w3 w4) := HFq.out.kp hf4
            have HRW : Hid (RowAt w4 g2 c2 W H (strP B H)) := hr4
            have HNE : Hid (N = H * stride W) := hN
            have HPE : Hid (PgEnd w4 p W H 1 s) := hpe
            clear hN hr4 hpe hf4 hg4 m0 m1 m2
            have HFB : Hid (Fr (fun _ => False) w4 (w4.alloc (.cells #[.int .i64 W, .int .i64 H, .slice (some ⟨g2, 0, none⟩) N c2] 38))) := (Fr.refl _ _).alloc _
            obtain ⟨m0, m1, m2, mf⟩ := cell_of_three (HV.out _ (HF4.out.more HFB.out)).2.1
            obtain ⟨k0, k1, k2, kf⟩ := cell_of_three (three_new w4 (.int .i64 W) (.int .i64 H) (.slice (some ⟨g2, 0, none⟩) N c2))
            have HEQ : Hid (Calls Try.prog 18 #[.agg #[.int .i64 W, .int .i64 H, .slice (some ⟨g2, 0, none⟩) N c2], .agg #[.int .i64 W, .int .i64 H, .slice av nl cv]] (w4.alloc (.cells #[.int .i64 W, .int .i64 H, .slice (some ⟨g2, 0, none⟩) N c2] 38)) fun e w' => e = .returned (.bool true) ∧ Fr (fun _ => False) (w4.alloc (.cells #[.int .i64 W, .int .i64 H, .slice (some ⟨g2, 0, none⟩) N c2] 38)) w') := eq_rb HNE.out (HRW.out.kept HFB.out (fun h => h)) (HV.out _ (HF4.out.more HFB.out)).1 (str_end B)
            go_wp2_with fail
            refine HEQ.out.mono ?_
            rintro e w5 ⟨rfl, hf5⟩
            have HF45 : Hid (Fr (fun _ => False) w4 w5) := HFB.out.trans hf5 (fun _ _ h => h)
            have HPE5 : Hid (PgEnd w5 p W H 1 s) := HPE.out.kept HF45.out (fun h => h)
            have HF5 : Hid (Fr (fun _ => False) w0 w5) := (HV.out _ (HF4.out.more HF45.out)).2.2
            clear m0 m1 m2 mf k0 k1 k2 kf
            obtain ⟨m0, m1, m2, mf⟩ := cell_of_three (HV.out _ (HF4.out.more HF45.out)).2.1
            clear hf5 HEQ HFB
            go_wp2_with fail
            refine (stripe_no HPE5.out H z2 (Nat.le_trans hs2 z2) z2 (stripe_done s H H)).mono ?_
            rintro e w6 ⟨rfl, kk, rfl⟩
            go_wp2_with fail
            go_roundg (4 - (j + 1))
            case measure => have := HJ.out; omega
            case rel => exact ⟨j + 1, by have := HJ.out; omega, congrArg (Value.int .i64) (Int.natCast_succ j).symm, HF5.out.drewN _⟩
    · have d1 : (if decide (j < n) = true then decide (j < 4) else false) = false := by
        by_cases q1 : j < n
        · simp [q1]; omega
        · simp [q1]
      have d9 : j < n → ¬ j < 4 := by omega
      by_cases q1 : j < n
      · have e1 : decide (j < n) = true := decide_eq_true q1
        have e2 : decide (j < 4) = false := decide_eq_false (d9 q1)
        clear d1
        go_wp2_with fail
        refine (wakes_any _).mono ?_
        rintro e w5 ⟨rfl, hf5⟩
        go_wp2_with fail
        go_ret
        exact ⟨rfl, (HW0.out.trans HFr.out (fun _ _ h => h)).trans hf5 (fun _ _ h => h)⟩
      · have e1 : decide (j < n) = false := decide_eq_false q1
        clear d1
        go_wp2_with fail
        refine (wakes_any _).mono ?_
        rintro e w5 ⟨rfl, hf5⟩
        go_wp2_with fail
        go_ret
        exact ⟨rfl, (HW0.out.trans HFr.out (fun _ _ h => h)).trans hf5 (fun _ _ h => h)⟩

end Go.Proofs.Ytejempbgpkeheaa
