/- The law 'RunsMirrored'. -/
import Derived.Test.YthliacfkmpijmaaRd
import Derived.Test.YthliacfkmpijmaaRg
import Derived.Test.YthliacfkmpijmaaIm
namespace Go.Proofs.Ythliacfkmpijmaa
open Go.RowKit

theorem RowAt.bm {w : World} {g cap W H : Nat} {P : Nat → Nat → Bool} (h : RowAt w g cap W H P) (h1 : 1 ≤ W) (h2 : 1 ≤ H) (h3 : W * H ≤ 1048576) : Bm w (.slice (some ⟨g, 0, none⟩) (H * stride W) cap) W H P := by
  obtain ⟨f1, f2, f3⟩ := size_facts h1 h2 h3
  refine ⟨h.seen f3, fun ao n c e => ?_, h1, h2, h3⟩
  cases e
  rcases h.2 with ⟨e, _⟩ | ⟨g', cap', cur, e, _, _, hc, hm, _⟩
  · cases e
  · cases e; exact ⟨hc, hm⟩

set_option maxRecDepth 100000 in
set_option maxHeartbeats 8000000 in
theorem mirrored_any (x y : Int) (v : Value) (l : List Nat) (w : World) (hx : -9223372036854775808 ≤ x ∧ x ≤ 9223372036854775807) (hy : -9223372036854775808 ≤ y ∧ y ≤ 9223372036854775807) (hv : Seen w v l) (hcap : CapOK v) (hlt : ∀ j : Nat, l[j]?.getD 0 < 18446744073709551616) :
    Calls Try.prog 6 #[.agg #[.int .i64 x, .int .i64 y, v]] w fun e w' => e = .returned (.bool true) ∧ Fr (fun _ => False) w w' := by
  have HMY : Hid (∀ w', Fr (fun _ => False) w w' → Calls Try.prog 18 #[.agg #[.int .i64 x, .int .i64 y, v]] w' fun e w'' => e = .returned (.bool (validB x y l)) ∧ Fr (fun _ => False) w' w'') := fun w' hf => may_any x y v l w' hx hy (hv.kept hf) hlt
  have HV : Hid (validB x y l = true → ∃ (W H : Nat) (P : Nat → Nat → Bool), x = W ∧ y = H ∧ l = render W H P ∧ Bm w v W H P) := fun h => valid_bm h hv hcap hlt
  obtain ⟨ao, cap, rfl, -, -⟩ := hv
  have HBX : Hid (∀ w', Fr (fun _ => False) (w.alloc (.cells #[.int .i64 x, .int .i64 y, .slice ao l.length cap] 25)) w' → w'.cell? ⟨w.heap.size, 0, none⟩ = some (.int .i64 x) ∧ w'.cell? ⟨w.heap.size, 1, none⟩ = some (.int .i64 y) ∧ w'.cell? ⟨w.heap.size, 2, none⟩ = some (.slice ao l.length cap)) := fun w' hf => by
    have hB : w'.heap[w.heap.size]? = some (.cells #[.int .i64 x, .int .i64 y, .slice ao l.length cap] 25 (0, 0)) := by
      rw [hf.block _ (by simp) (fun hh => hh)]; exact heap_alloc_new _ _
    obtain ⟨c0, c1, c2, _⟩ := cell_of_three hB
    exact ⟨c0, c1, c2⟩
  have HA : Hid (Fr (fun _ => False) w (w.alloc (.cells #[.int .i64 x, .int .i64 y, .slice ao l.length cap] 25))) := (Fr.refl _ _).alloc _
  clear hcap hlt hx hy
  go_enter Try.func6, Try.ntmps6
  go_wp2_with fail
  generalize w.alloc (.cells #[.int .i64 x, .int .i64 y, .slice ao l.length cap] 25) = w0 at *
  refine (HMY.out _ HA.out).mono ?_
  rintro e w1 ⟨rfl, hf1⟩
  have HF1 : Hid (Fr (fun _ => False) w0 w1) := hf1
  obtain ⟨c0, c1, c2⟩ := HBX.out _ hf1
  clear hf1 HMY
  by_cases hval : validB x y l = true
  · rw [hval]
    obtain ⟨W, H, P, rfl, rfl, rfl, hbm⟩ := HV.out hval
    have HBm : Hid (∀ w', Fr (fun _ => False) w w' → Bm w' (.slice ao (render W H P).length cap) W H P) := fun w' f => hbm.kept f
    obtain ⟨f1, f2, f3⟩ := size_facts hbm.h1 hbm.h2 hbm.h3
    have HW : Hid (1 ≤ W ∧ 1 ≤ H ∧ W * H ≤ 1048576) := ⟨hbm.h1, hbm.h2, hbm.h3⟩
    clear hbm hval HV f3
    generalize (render W H P).length = n at *
    go_wp2_with fail
    refine (small_any w1.heap.size 0 1 1 60000 _ (by omega) (fun i hi => ?_)).mono ?_
    · obtain rfl : i = 0 := by omega
      obtain ⟨_, _, k2, _⟩ := cell_of_three (heap_alloc_new w1 (.cells #[.int .i64 (W : Int), .int .i64 (H : Int), .slice ao n cap] 25))
      exact ⟨ao, n, cap, k2⟩
    rintro e w2 ⟨bb, rfl, q, hw2⟩
    have HF2 : Hid (Fr (fun _ => False) w0 w2) := by rw [hw2]; exact (HF1.out.alloc _).drewN q
    clear hw2 c0 c1 c2
    cases bb with
    | false =>
      go_wp2_with fail
      refine (wakes_any _).mono ?_
      rintro e w3 ⟨rfl, hf3⟩
      have HF3 : Hid (Fr (fun _ => False) w w3) := (HA.out.trans HF2.out (fun _ _ h => h)).trans hf3 (fun _ _ h => h)
      clear hf3
      go_wp2_with fail
      go_ret
      exact ⟨rfl, HF3.out⟩
    | true =>
      obtain ⟨c0, c1, c2⟩ := HBX.out _ HF2.out
      go_wp2_with fail
      refine (copy_any W H _ P _ (HBm.out _ (HA.out.trans HF2.out (fun _ _ h => h)))).mono ?_
      rintro e w3 ⟨g3, cap3, rfl, hr3, hf3, hg3⟩
      have HF3 : Hid (Fr (fun _ => False) w0 (w3.alloc (.cells #[.int .i64 W, .int .i64 H, .slice (some ⟨g3, 0, none⟩) (H * stride W) cap3] 25))) := (HF2.out.trans hf3 (fun _ _ h => h)).alloc _
      have HG3 : Hid (w0.heap.size ≤ g3 ∧ g3 < w3.heap.size) := ⟨by have := HF2.out.size; omega, hr3.lt⟩
      have HR3 : Hid (RowAt (w3.alloc (.cells #[.int .i64 W, .int .i64 H, .slice (some ⟨g3, 0, none⟩) (H * stride W) cap3] 25)) g3 cap3 W H P) := hr3.kept ((Fr.refl (fun _ => False) _).alloc _) (fun h => h)
      have HBC : Hid (∀ w', Fr (fun k => k = g3) (w3.alloc (.cells #[.int .i64 W, .int .i64 H, .slice (some ⟨g3, 0, none⟩) (H * stride W) cap3] 25)) w' → w'.cell? ⟨w3.heap.size, 0, none⟩ = some (.int .i64 W) ∧ w'.cell? ⟨w3.heap.size, 1, none⟩ = some (.int .i64 H) ∧ w'.cell? ⟨w3.heap.size, 2, none⟩ = some (.slice (some ⟨g3, 0, none⟩) (H * stride W) cap3)) := fun w' hf => by
        obtain ⟨q0, q1, q2, _⟩ := cell_of_three ((hf.block w3.heap.size (by simp) (by have := HG3.out; omega)).trans (heap_alloc_new w3 _))
        exact ⟨q0, q1, q2⟩
      clear hr3 hf3 hg3 c0 c1 c2
      go_wp2_with fail
      generalize w3.alloc (.cells #[.int .i64 W, .int .i64 H, .slice (some ⟨g3, 0, none⟩) (H * stride W) cap3] 25) = w4 at *
      refine (rinvert_any W H g3 cap3 P w4 HR3.out HW.out.1 HW.out.2.1 HW.out.2.2).mono ?_
      rintro e w5 ⟨rfl, hr5, hf5⟩
      have HR5 : Hid (RowAt w5 g3 cap3 W H (fun x y => !P x y)) := hr5
      have HF5 : Hid (Fr (fun _ => False) w0 w5) := HF3.out.trans hf5 (fun i hi e => by have := HG3.out; omega)
      have HF45 : Hid (Fr (fun k => k = g3) w4 w5) := hf5
      clear hr5 hf5 HR3
      obtain ⟨c0, c1, c2⟩ := HBX.out _ HF5.out
      go_wp2_with fail
      refine (of_ok W H _ P _ (HBm.out _ (HA.out.trans HF5.out (fun _ _ h => h)))).mono ?_
      rintro e w6 ⟨gl, vl, rfl, ho6, hf6⟩
      have HOl : Hid (OwnRR w6 w5.heap.size gl H H (fun y => rl (fun x => P x y) W) vl) := ho6
      have HF6 : Hid (Fr (fun _ => False) w5 w6) := hf6
      clear ho6 hf6 c0 c1 c2
      obtain ⟨c0, c1, c2⟩ := HBX.out _ (HF5.out.trans HF6.out (fun _ _ h => h))
      go_wp2_with fail
      refine (rmirror_any W H _ P _ (HBm.out _ ((HA.out.trans HF5.out (fun _ _ h => h)).trans HF6.out (fun _ _ h => h)))).mono ?_
      rintro e w7 ⟨g7, cap7, rfl, hr7, hf7, hg7⟩
      have HF7 : Hid (Fr (fun _ => False) w6 w7) := hf7
      have HB7 : Hid (Bm w7 (.slice (some ⟨g7, 0, none⟩) (H * stride W) cap7) W H (fun x y => P (W - 1 - x) y)) := hr7.bm HW.out.1 HW.out.2.1 HW.out.2.2
      clear hr7 hf7 hg7 c0 c1 c2
      go_wp2_with fail
      refine (of_ok W H _ (fun x y => P (W - 1 - x) y) _ HB7.out).mono ?_
      rintro e w8 ⟨gm, vm, rfl, ho8, hf8⟩
      have HOm : Hid (OwnRR w8 w7.heap.size gm H H (fun y => rl (fun x => P (W - 1 - x) y) W) vm) := ho8
      have HF8 : Hid (Fr (fun _ => False) w5 w8) := (HF6.out.trans HF7.out (fun _ _ h => h)).trans hf8 (fun _ _ h => h)
      have HF68 : Hid (Fr (fun _ => False) w6 w8) := HF7.out.trans hf8 (fun _ _ h => h)
      clear ho8 hf8
      obtain ⟨c0, c1, c2⟩ := HBC.out _ (HF45.out.trans HF8.out (fun _ _ h => h.elim))
      go_wp2_with fail
      refine (of_ok W H _ (fun x y => !P x y) _ ((HR5.out.kept HF8.out (fun h => h)).bm HW.out.1 HW.out.2.1 HW.out.2.2)).mono ?_
      rintro e w9 ⟨gn, vn, rfl, ho9, hf9⟩
      have HOn : Hid (OwnRR w9 w8.heap.size gn H H (fun y => rl (fun x => !P x y) W) vn) := ho9
      have HOl9 : Hid (OwnRR w9 w5.heap.size gl H H (fun y => rl (fun x => P x y) W) vl) := (HOl.out.kept HF68.out (fun _ _ h => h)).kept hf9 (fun _ _ h => h)
      have HOm9 : Hid (OwnRR w9 w7.heap.size gm H H (fun y => rl (fun x => P (W - 1 - x) y) W) vm) := HOm.out.kept hf9 (fun _ _ h => h)
      have HF9 : Hid (Fr (fun _ => False) w0 w9) := (HF5.out.trans HF8.out (fun _ _ h => h)).trans hf9 (fun _ _ h => h)
      clear ho9 hf9 c0 c1 c2 HOl HOm HF8 HF68 HF6 HF7 HB7 HR5 HF45 HBC HF5 HF3 HF2 HF1
      obtain ⟨c0, c1, c2⟩ := HBX.out _ HF9.out
      have hHH : ((H : Int) != (H : Int)) = false := by simp
      go_wp2_with fail
      clear c0 c1 c2
      go_loopg [10, 11, 12, 13, 14, 15] H (fun q yv _ _ _ _ _ wr => ∃ Y : Nat, Y + q = H ∧ yv = .int .i64 Y ∧ Fr (fun _ => False) w9 wr)
      case atStart => exact ⟨0, by omega, rfl, Fr.refl _ _⟩
      case round =>
        obtain ⟨Y, hYq, rfl, hfr⟩ := hrel
        have HFr : Hid (Fr (fun _ => False) w9 wr) := hfr
        clear hfr
        by_cases hYH : Y < H
        · have hdY : decide (Y < H) = true := decide_eq_true hYH
          obtain ⟨al, cl, hrl⟩ := HOl9.out.row hYH
          obtain ⟨am, cm, hrm⟩ := HOm9.out.row hYH
          obtain ⟨an, cn, hrn⟩ := HOn.out.row hYH
          have hmir := rl_mirror (fun x => P x Y) W
          have hinv := rl_inverse (fun x => P x Y) W
          have hrun := rl_isRun (fun x => P x Y) W
          (try simp only at hrl hrm hrn hmir hinv)
          rw [hmir] at hrm
          rw [hinv] at hrn
          have hRlen := rl_len (fun x => P x Y) W
          have hGap := gapsL_apart (rl_apart (fun x => P x Y) W)
          have hGlen := apart_len hGap (by omega)
          generalize rl (fun x => P x Y) W = R at *
          clear hmir hinv
          obtain ⟨G, hG⟩ : ∃ G, G = gapsL W 0 R := ⟨_, rfl⟩
          rw [← hG] at hrn hGlen
          have HGE : Hid (G = gapsL W 0 R) := hG
          have HCH : Hid (∀ w', Fr (fun _ => False) w9 w' → w'.cell? ⟨gl, Y, none⟩ = some (.slice al R.length cl) ∧ w'.cell? ⟨gm, Y, none⟩ = some (.slice am R.length cm) ∧ w'.cell? ⟨gn, Y, none⟩ = some (.slice an G.length cn)) := fun w' f => ⟨(hrl w' f).1, by have := (hrm w' f).1; rwa [length_mirL] at this, (hrn w' f).1⟩
          have HCL : Hid (∀ w', Fr (fun _ => False) w9 w' → ∀ k (hk : k < R.length), ∃ b1, al = some ⟨b1, 0, none⟩ ∧ w'.cell? ⟨b1, k * 2, none⟩ = some (.int .i64 (R[k].1 : Int)) ∧ w'.cell? ⟨b1, k * 2 + 1, none⟩ = some (.int .i64 (R[k].2 : Int))) := fun w' f => (hrl w' f).2
          have HCM : Hid (∀ w', Fr (fun _ => False) w9 w' → ∀ k (hk : k < R.length), ∃ b1, am = some ⟨b1, 0, none⟩ ∧ w'.cell? ⟨b1, (R.length - 1 - k) * 2, none⟩ = some (.int .i64 ((W - R[k].2 : Nat) : Int)) ∧ w'.cell? ⟨b1, (R.length - 1 - k) * 2 + 1, none⟩ = some (.int .i64 ((W - R[k].1 : Nat) : Int))) := fun w' f k hk => by
            obtain ⟨b1, e1, q0, q1⟩ := (hrm w' f).2 (R.length - 1 - k) (by rw [length_mirL]; omega)
            rw [mirL_get W R hk] at q0 q1
            exact ⟨b1, e1, q0, q1⟩
          have HCN : Hid (∀ w', Fr (fun _ => False) w9 w' → ∀ k (hk : k < G.length), ∃ b1, an = some ⟨b1, 0, none⟩ ∧ w'.cell? ⟨b1, k * 2, none⟩ = some (.int .i64 (G[k].1 : Int)) ∧ w'.cell? ⟨b1, k * 2 + 1, none⟩ = some (.int .i64 (G[k].2 : Int))) := fun w' f => (hrn w' f).2
          have HRN : Hid (∀ k (hk : k < R.length), R[k].1 < R[k].2 ∧ R[k].2 ≤ W) := fun k hk => ⟨(hrun _ (List.getElem_mem hk)).lt, (hrun _ (List.getElem_mem hk)).le⟩
          clear hrl hrm hrn hrun hGap hG
          obtain ⟨c0, c1, c2⟩ := HBX.out _ (HF9.out.trans HFr.out (fun _ _ h => h))
          obtain ⟨kl, km, kn⟩ := HCH.out _ HFr.out
          have hnn : ((R.length : Int) != (R.length : Int)) = false := by simp
          obtain ⟨nR, hnR⟩ : ∃ nR, nR = R.length := ⟨_, rfl⟩
          have HNR : Hid (nR = R.length) := hnR
          rw [← hnR] at hRlen HCH kl km hnn
          obtain ⟨nG, hnG⟩ : ∃ nG, nG = G.length := ⟨_, rfl⟩
          have HNG : Hid (nG = G.length) := hnG
          rw [← hnG] at hGlen HCH kn
          clear hnR hnG
          go_wp2_with fail
          go_quiet (fail)
          have HFq : Hid (Fr (fun _ => False) w9 (wr.drewN nq)) := HFr.out.drewN _
          generalize wr.drewN nq = wq at *
          clear c0 c1 c2 kl km kn
          go_wp2_with fail
          go_loopg [11, 12, 13, 14, 15] nR (fun q av kv iv _ _ wr => ∃ I k at_ : Nat, I + q = nR ∧ iv = .int .i64 I ∧ kv = .int .i64 k ∧ av = .int .i64 at_ ∧ at_ ≤ W ∧ k ≤ nG ∧ Hid (G.drop k = gapsL W at_ (R.drop I)) ∧ Fr (fun _ => False) w9 wr)
          case atStart => exact ⟨0, 0, 0, by omega, rfl, rfl, rfl, by omega, by omega, HGE.out, HFq.out⟩
          case round =>
            clear HFr HFq
            obtain ⟨I, k, at_, hIq, rfl, rfl, rfl, hat, hkG, HD, hfr⟩ := hrel
            have HFr : Hid (Fr (fun _ => False) w9 wr) := hfr
            obtain ⟨kl, km, kn⟩ := HCH.out _ hfr
            obtain ⟨c0, c1, c2⟩ := HBX.out _ (HF9.out.trans hfr (fun _ _ h => h))
            clear hfr
            by_cases hIR : I < nR
            · have hdI : decide (I < nR) = true := decide_eq_true hIR
              have hIR' : I < R.length := by have := HNR.out; omega
              obtain ⟨bl, rfl, k0, k1⟩ := HCL.out wr HFr.out I hIR'
              obtain ⟨bm, rfl, m0, m1⟩ := HCM.out wr HFr.out I hIR'
              obtain ⟨r1, r2⟩ := HRN.out I hIR'
              have HD2 : Hid (G.drop k = gapsL W at_ ((R[I].1, R[I].2) :: R.drop (I + 1))) := by
                show _ = _
                rw [HD.out, List.drop_eq_getElem_cons hIR']
              clear HD
              obtain ⟨J, hJ⟩ : ∃ J, J = nR - 1 - I := ⟨_, rfl⟩
              have hJ' : J = R.length - 1 - I := by have := HNR.out; omega
              rw [← hJ'] at m0 m1
              have HMW : Hid (∀ w', Fr (fun _ => False) w9 w' → w'.cell? ⟨bm, J * 2, none⟩ = some (.int .i64 ((W - R[I].2 : Nat) : Int)) ∧ w'.cell? ⟨bm, J * 2 + 1, none⟩ = some (.int .i64 ((W - R[I].1 : Nat) : Int))) := fun w' f => by
                obtain ⟨bm', e', q0, q1⟩ := HCM.out w' f I hIR'
                simp only [Option.some.injEq, Addr.mk.injEq, and_true] at e'
                subst e'
                rw [← hJ'] at q0 q1
                exact ⟨q0, q1⟩
              have hJ2 : J < nR := by omega
              have hs1 : IntKind.i64.wrap ((nR : Int) - 1) = (nR : Int) - 1 := by rw [IntKind.wrap_i64]; omega
              have hs2 : IntKind.i64.wrap ((nR : Int) - 1 - (I : Int)) = (J : Int) := by rw [IntKind.wrap_i64]; omega
              clear hJ hJ' HCM HCL m0 m1
              generalize R[I].1 = a at *
              generalize R[I].2 = b at *
              clear hIR'
              have HFA : Hid (Fr (fun _ => False) w9 (wr.alloc (.cells #[.int .i64 (a : Int), .int .i64 (b : Int)] 35))) := HFr.out.alloc _
              have HBA : Hid (∀ w', Fr (fun _ => False) (wr.alloc (.cells #[.int .i64 (a : Int), .int .i64 (b : Int)] 35)) w' → w'.cell? ⟨wr.heap.size, 0, none⟩ = some (.int .i64 (a : Int)) ∧ w'.cell? ⟨wr.heap.size, 1, none⟩ = some (.int .i64 (b : Int))) := fun w' hf => by
                obtain ⟨q0, q1, _⟩ := cell_of_two (blkOld hf (heap_alloc_new wr (.cells #[.int .i64 (a : Int), .int .i64 (b : Int)] 35)))
                exact ⟨q0, q1⟩
              go_upto_region 21 with (fail)
              generalize wr.alloc (.cells #[.int .i64 (a : Int), .int .i64 (b : Int)] 35) = wA at *
              clear kl km kn c0 c1 c2 k0 k1
              have HS : Hid (∀ w', Fr (fun _ => False) wA w' → (w'.cell? ⟨gl, Y, none⟩ = some (.slice (some ⟨bl, 0, none⟩) nR cl) ∧ w'.cell? ⟨gm, Y, none⟩ = some (.slice (some ⟨bm, 0, none⟩) nR cm)) ∧ w'.cell? ⟨bm, J * 2, none⟩ = some (.int .i64 ((W - b : Nat) : Int)) ∧ w'.cell? ⟨bm, J * 2 + 1, none⟩ = some (.int .i64 ((W - a : Nat) : Int))) := fun w' f => by
                obtain ⟨q0, q1, _⟩ := HCH.out _ (HFA.out.trans f (fun _ _ h => h))
                exact ⟨⟨q0, q1⟩, HMW.out _ (HFA.out.trans f (fun _ _ h => h))⟩
              obtain ⟨⟨kl, km⟩, m0, m1⟩ := HS.out wA (Fr.refl _ _)
              go_region_held3 (fun w' => (w'.cell? ⟨gl, Y, none⟩ = some (.slice (some ⟨bl, 0, none⟩) nR cl) ∧ w'.cell? ⟨gm, Y, none⟩ = some (.slice (some ⟨bm, 0, none⟩) nR cm)) ∧ w'.cell? ⟨bm, J * 2, none⟩ = some (.int .i64 ((W - b : Nat) : Int)) ∧ w'.cell? ⟨bm, J * 2 + 1, none⟩ = some (.int .i64 ((W - a : Nat) : Int))) (exact HS.out _ (by repeat (first | with_reducible exact Fr.refl _ _ | with_reducible refine Fr.drew ?_ | with_reducible refine Fr.alloc ?_ _ | with_reducible refine Fr.setCell ?_ (fun hh => absurd hh (Nat.lt_irrefl _)) _))) (fail)
              have HFB : Hid (Fr (fun _ => False) wA (wA.alloc (.cells #[.int .i64 ((W - b : Nat) : Int), .int .i64 ((W - a : Nat) : Int)] 35)).drew) := ((Fr.refl _ _).alloc _).drew
              have HBQ : Hid (∀ w', Fr (fun _ => False) (wA.alloc (.cells #[.int .i64 ((W - b : Nat) : Int), .int .i64 ((W - a : Nat) : Int)] 35)).drew w' → w'.cell? ⟨wA.heap.size, 0, none⟩ = some (.int .i64 ((W - b : Nat) : Int)) ∧ w'.cell? ⟨wA.heap.size, 1, none⟩ = some (.int .i64 ((W - a : Nat) : Int))) := fun w' hf => by
                obtain ⟨q0, q1, _⟩ := cell_of_two (blkOld hf (blkDrew (heap_alloc_new wA (.cells #[.int .i64 ((W - b : Nat) : Int), .int .i64 ((W - a : Nat) : Int)] 35))))
                exact ⟨q0, q1⟩
              generalize (wA.alloc (.cells #[.int .i64 ((W - b : Nat) : Int), .int .i64 ((W - a : Nat) : Int)] 35)).drew = wB at *
              clear kl km m0 m1 HS HMW
              obtain ⟨c0, c1, c2⟩ := HBX.out _ (HF9.out.trans (HFA.out.trans HFB.out (fun _ _ h => h)) (fun _ _ h => h))
              obtain ⟨k0, k1⟩ := HBA.out _ HFB.out
              obtain ⟨m0, m1⟩ := HBQ.out _ (Fr.refl _ _)
              have hx1 : (W : Int) - (b : Int) = ((W - b : Nat) : Int) := by omega
              have hx2 : (W : Int) - (a : Int) = ((W - a : Nat) : Int) := by omega
              generalize W - b = wb at *
              generalize W - a = wa at *
              have hq1 : ((wb : Int) != (wb : Int)) = false := by simp
              have hq2 : ((wa : Int) != (wa : Int)) = false := by simp
              by_cases hga : at_ < a
              · have dga : decide (at_ < a) = true := decide_eq_true hga
                have HD3 : Hid (G.drop k = (at_, a) :: gapsL W b (R.drop (I + 1))) := by
                  have := HD2.out
                  unfold gapsL at this
                  rw [if_pos hga] at this
                  exact this
                have hkl : k < G.length := by
                  rcases Nat.lt_or_ge k G.length with h | h
                  · exact h
                  · have := HD3.out; rw [List.drop_eq_nil_of_le h] at this; cases this
                have hG2 := HD3.out
                rw [List.drop_eq_getElem_cons hkl] at hG2
                obtain ⟨hG3, hG4⟩ := List.cons_eq_cons.1 hG2
                have HD4 : Hid (G.drop (k + 1) = gapsL W b (R.drop (I + 1))) := hG4
                obtain ⟨bn, rfl, n0, n1⟩ := HCN.out wB (HFA.out.trans HFB.out (fun _ _ h => h)) k hkl
                rw [hG3] at n0 n1
                have hkn : k < nG := by have := HNG.out; omega
                clear hG2 hG3 hG4 HD2 HD3 hkl
                have dkn : decide (nG ≤ k) = false := decide_eq_false (by omega)
                obtain ⟨_, _, kn⟩ := HCH.out _ (HFA.out.trans HFB.out (fun _ _ h => h))
                go_wp2_with fail
                go_quiet (fail)
                have HFq : Hid (Fr (fun _ => False) w9 (wB.drewN nq)) := (HFA.out.trans HFB.out (fun _ _ h => h)).drewN _
                obtain ⟨k0', k1'⟩ := HBA.out _ (HFB.out.drewN nq)
                clear k0 k1 m0 m1 n0 n1 kn c0 c1 c2
                generalize wB.drewN nq = wC at *
                go_wp2_with fail
                go_roundg (nR - (I + 1))
                case measure => omega
                case rel => exact ⟨I + 1, k + 1, b, by omega, congrArg (Value.int .i64) (by omega), congrArg (Value.int .i64) (by omega), rfl, by omega, by omega, HD4.out, HFq.out⟩
              · have dga : decide (at_ < a) = false := decide_eq_false hga
                have HD4 : Hid (G.drop k = gapsL W b (R.drop (I + 1))) := by
                  have := HD2.out
                  unfold gapsL at this
                  rw [if_neg hga] at this
                  exact this
                go_wp2_with fail
                go_roundg (nR - (I + 1))
                case measure => omega
                case rel => exact ⟨I + 1, k, b, by omega, congrArg (Value.int .i64) (by omega), rfl, rfl, by omega, by omega, HD4.out, HFA.out.trans HFB.out (fun _ _ h => h)⟩
            · have hdI : decide (I < nR) = false := decide_eq_false hIR
              have HD2 : Hid (G.drop k = if at_ < W then [(at_, W)] else []) := by
                have := HD.out
                rw [show R.drop I = [] from List.drop_eq_nil_of_le (by have := HNR.out; omega)] at this
                exact this
              clear HD
              by_cases hgw : at_ < W
              · have dgw : decide (at_ < W) = true := decide_eq_true hgw
                have HD3 : Hid (G.drop k = [(at_, W)]) := by have := HD2.out; rw [if_pos hgw] at this; exact this
                have hkl : k < G.length := by
                  rcases Nat.lt_or_ge k G.length with h | h
                  · exact h
                  · have := HD3.out; rw [List.drop_eq_nil_of_le h] at this; cases this
                have hG2 := HD3.out
                rw [List.drop_eq_getElem_cons hkl] at hG2
                obtain ⟨hG3, hG4⟩ := List.cons_eq_cons.1 hG2
                have hke : k + 1 = nG := by have := HNG.out; have h5 := List.drop_eq_nil_iff.1 hG4; omega
                obtain ⟨bn, rfl, n0, n1⟩ := HCN.out wr HFr.out k hkl
                rw [hG3] at n0 n1
                have HKE : Hid (k + 1 = nG) := hke
                have hkn : k < nG := by omega
                clear hG2 hG3 hG4 HD2 HD3 hkl hke
                have dkn : decide (nG ≤ k) = false := decide_eq_false (by omega)
                go_wp2_with fail
                go_quiet (fail)
                have HFq : Hid (Fr (fun _ => False) w9 (wr.drewN nq)) := HFr.out.drewN _
                clear kl km kn n0 n1 c0 c1 c2
                generalize wr.drewN nq = wC at *
                obtain ⟨kl, km, kn⟩ := HCH.out _ HFq.out
                have hnk : (((k : Int) + 1) != (nG : Int)) = false := by rw [bne_eq_false_iff_eq]; have := HKE.out; omega
                go_wp2_with fail
                go_roundg (H - (Y + 1))
                case measure => omega
                case rel => exact ⟨Y + 1, by omega, congrArg (Value.int .i64) (by omega), HFq.out⟩
              · have dgw : decide (at_ < W) = false := decide_eq_false hgw
                have hke : k = nG := by
                  have := HD2.out
                  rw [if_neg hgw] at this
                  have h5 := List.drop_eq_nil_iff.1 this
                  have := HNG.out
                  omega
                have hnk : ((k : Int) != (nG : Int)) = false := by rw [bne_eq_false_iff_eq]; omega
                clear hke
                go_wp2_with fail
                go_roundg (H - (Y + 1))
                case measure => omega
                case rel => exact ⟨Y + 1, by omega, congrArg (Value.int .i64) (by omega), HFr.out⟩
        · have hdY : decide (Y < H) = false := decide_eq_false hYH
          obtain ⟨c0, c1, c2⟩ := HBX.out _ (HF9.out.trans HFr.out (fun _ _ h => h))
          go_wp2_with fail
          refine (wakes_any _).mono ?_
          rintro e wz ⟨rfl, hfz⟩
          have HFz : Hid (Fr (fun _ => False) w wz) := ((HA.out.trans HF9.out (fun _ _ h => h)).trans HFr.out (fun _ _ h => h)).trans hfz (fun _ _ h => h)
          clear hfz
          go_wp2_with fail
          go_ret
          exact ⟨rfl, HFz.out⟩
  · have hvf : validB x y l = false := by simpa using hval
    rw [hvf]
    go_wp2_with fail
    refine (wakes_any _).mono ?_
    rintro e wz ⟨rfl, hfz⟩
    have HFz : Hid (Fr (fun _ => False) w wz) := (HA.out.trans HF1.out (fun _ _ h => h)).trans hfz (fun _ _ h => h)
    clear hfz
    go_wp2_with fail
    go_ret
    exact ⟨rfl, HFz.out⟩

end Go.Proofs.Ythliacfkmpijmaa
