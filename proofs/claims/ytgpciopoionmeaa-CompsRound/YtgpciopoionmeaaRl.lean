/- The law 'CompsRound'. -/
import Derived.Test.YtgpciopoionmeaaWk
import Derived.Test.YtgpciopoionmeaaRa
import Derived.Test.YtgpciopoionmeaaSm
import Derived.Test.YtgpciopoionmeaaFr2
namespace Go.Proofs.Ytgpciopoionmeaa
open Go.RowKit

set_option maxRecDepth 100000 in
set_option maxHeartbeats 8000000 in
theorem round_any (x y : Int) (v : Value) (l : List Nat) (w : World) (hx : -9223372036854775808 ≤ x ∧ x ≤ 9223372036854775807) (hy : -9223372036854775808 ≤ y ∧ y ≤ 9223372036854775807) (hv : Seen w v l) (hcap : CapOK v) (hlt : ∀ j : Nat, l[j]?.getD 0 < 18446744073709551616) :
    Calls Try.prog 5 #[.agg #[.int .i64 x, .int .i64 y, v]] w fun e w' => e = .returned (.bool true) ∧ Fr (fun _ => False) w w' := by
  have HMY : Hid (∀ w', Fr (fun _ => False) w w' → Calls Try.prog 21 #[.agg #[.int .i64 x, .int .i64 y, v]] w' fun e w'' => e = .returned (.bool (validB x y l)) ∧ Fr (fun _ => False) w' w'') := fun w' hf => may_any x y v l w' hx hy (hv.kept hf) hlt
  have HV : Hid (validB x y l = true → ∃ (W H : Nat) (P : Nat → Nat → Bool), x = W ∧ y = H ∧ l = render W H P ∧ Bm w v W H P) := fun h => valid_bm h hv hcap hlt
  obtain ⟨ao, cap, rfl, -, -⟩ := hv
  have HBX : Hid (∀ w', Fr (fun _ => False) (w.alloc (.cells #[.int .i64 x, .int .i64 y, .slice ao l.length cap] 25)) w' → w'.cell? ⟨w.heap.size, 0, none⟩ = some (.int .i64 x) ∧ w'.cell? ⟨w.heap.size, 1, none⟩ = some (.int .i64 y) ∧ w'.cell? ⟨w.heap.size, 2, none⟩ = some (.slice ao l.length cap)) := fun w' hf => by
    have hB : w'.heap[w.heap.size]? = some (.cells #[.int .i64 x, .int .i64 y, .slice ao l.length cap] 25 (0, 0)) := by
      rw [hf.block _ (by simp) (fun hh => hh)]; exact heap_alloc_new _ _
    obtain ⟨c0, c1, c2, _⟩ := cell_of_three hB
    exact ⟨c0, c1, c2⟩
  have HA : Hid (Fr (fun _ => False) w (w.alloc (.cells #[.int .i64 x, .int .i64 y, .slice ao l.length cap] 25))) := (Fr.refl _ _).alloc _
  clear hcap hlt hx hy
  go_enter Try.func5, Try.ntmps5
  go_wp2_with fail
  generalize w.alloc (.cells #[.int .i64 x, .int .i64 y, .slice ao l.length cap] 25) = w0 at *
  refine (HMY.out _ HA.out).mono ?_
  rintro e w1 ⟨rfl, hf1⟩
  have HF1 : Hid (Fr (fun _ => False) w0 w1) := hf1
  obtain ⟨c0, c1, c2⟩ := HBX.out _ hf1
  clear hf1 HMY
  by_cases hval : validB x y l = true
  case neg =>
    rw [Bool.not_eq_true] at hval
    rw [hval]
    clear c0 c1 c2
    go_wp2_with fail
    refine (wakes_any _).mono ?_
    rintro e w3 ⟨rfl, hf3⟩
    have HF3 : Hid (Fr (fun _ => False) w w3) := (HA.out.trans HF1.out (fun _ _ h => h)).trans hf3 (fun _ _ h => h)
    clear hf3
    go_wp2_with fail
    go_ret
    exact ⟨rfl, HF3.out⟩
  case pos =>
    rw [hval]
    obtain ⟨W, H, P, rfl, rfl, rfl, hbm⟩ := HV.out hval
    have HBm : Hid (∀ w', Fr (fun _ => False) w w' → Bm w' (.slice ao (render W H P).length cap) W H P) := fun w' f => hbm.kept f
    obtain ⟨f1, f2, f3⟩ := size_facts hbm.h1 hbm.h2 hbm.h3
    have HW : Hid (1 ≤ W ∧ 1 ≤ H ∧ W * H ≤ 1048576) := ⟨hbm.h1, hbm.h2, hbm.h3⟩
    clear hbm hval HV f3
    generalize (render W H P).length = n at *
    go_wp2_with fail
    refine (small_any w1.heap.size 0 1 1 20000 _ (by omega) (fun i hi => ?_)).mono ?_
    · obtain rfl : i = 0 := by omega
      obtain ⟨_, _, k2, _⟩ := cell_of_three (heap_alloc_new w1 (.cells #[.int .i64 (W : Int), .int .i64 (H : Int), .slice ao n cap] 25))
      exact ⟨ao, n, cap, k2⟩
    rintro e w2 ⟨bb, rfl, q, hw2⟩
    have HF2 : Hid (Fr (fun _ => False) w0 w2) := by rw [hw2]; exact (HF1.out.alloc _).drewN q
    clear hw2 c0 c1 c2
    cases bb with
    | false =>
      go_wp2_with fail
      refine (wakes_any _).mono ?_
      rintro e w3 ⟨rfl, hf3⟩
      have HF3 : Hid (Fr (fun _ => False) w w3) := (HA.out.trans HF2.out (fun _ _ h => h)).trans hf3 (fun _ _ h => h)
      clear hf3
      go_wp2_with fail
      go_ret
      exact ⟨rfl, HF3.out⟩
    | true =>
      obtain ⟨c0, c1, c2⟩ := HBX.out _ HF2.out
      go_wp2_with fail
      refine (cof_ok W H _ P _ (HBm.out _ (HA.out.trans HF2.out (fun _ _ h => h)))).mono ?_
      rintro e w3 ⟨rv, L, fs, rfl, ho3, hfs, hps, hf3⟩
      have HO3 : Hid (OwnPs w3 w2.heap.size rv L) := ho3
      have HFS : Hid (Firsts (Bk W H P) fs) := hfs
      have HPS : Hid (Pcs (Bk W H P) fs (L.map (·.1))) := hps
      have HF3 : Hid (Fr (fun _ => False) w0 w3) := HF2.out.trans hf3 (fun _ _ h => h)
      obtain ⟨aoL, cL, rfl⟩ := own_slice ho3.own
      clear ho3 hf3 hfs hps c0 c1 c2
      obtain ⟨c0, c1, c2⟩ := HBX.out _ HF3.out
      go_wp2_with fail
      refine (cback_of w3 HW.out.1 HW.out.2.1 HW.out.2.2 HFS.out HPS.out HO3.out).mono ?_
      rintro e w4 ⟨g4, cap4, rfl, hr4, _, hf4⟩
      have HS4 : Hid (∀ w', Fr (fun _ => False) w4 w' → Seen w' (.slice (some ⟨g4, 0, none⟩) (H * stride W) cap4) (render W H P)) := fun w' f => (hr4.seen (size_facts HW.out.1 HW.out.2.1 HW.out.2.2).2.2).kept f
      have HF4 : Hid (Fr (fun _ => False) w0 w4) := HF3.out.trans hf4 (fun _ _ h => h)
      have HO4 : Hid (OwnPs w4 w2.heap.size (.slice aoL L.length cL) L) := HO3.out.kept hf4 (fun _ _ h => h)
      clear hr4 hf4 c0 c1 c2
      generalize H * stride W = n4 at *
      have HEB : Hid (∀ w', Fr (fun _ => False) w0 w' → Fr (fun _ => False) w4 w' → Calls Try.prog 20 #[.agg #[.int .i64 W, .int .i64 H, .slice ao n cap], .agg #[.int .i64 W, .int .i64 H, .slice (some ⟨g4, 0, none⟩) n4 cap4]] w' fun e w'' => e = .returned (.bool true) ∧ Fr (fun _ => False) w' w'') := fun w' f f4 => eqBitmap_same W H _ _ _ w' (HBm.out _ (HA.out.trans f (fun _ _ h => h))).seen (HS4.out _ f4)
      obtain ⟨c0, c1, c2⟩ := HBX.out _ (HF4.out.alloc (.cells #[.int .i64 (W : Int), .int .i64 (H : Int), .slice (some ⟨g4, 0, none⟩) n4 cap4] 25))
      have HF5 : Hid (Fr (fun _ => False) w4 (w4.alloc (.cells #[.int .i64 (W : Int), .int .i64 (H : Int), .slice (some ⟨g4, 0, none⟩) n4 cap4] 25))) := (Fr.refl _ _).alloc _
      go_wp2_with fail
      generalize w4.alloc (.cells #[.int .i64 (W : Int), .int .i64 (H : Int), .slice (some ⟨g4, 0, none⟩) n4 cap4] 25) = w5 at *
      refine (HEB.out _ (HF4.out.trans HF5.out (fun _ _ h => h)) HF5.out).mono ?_
      rintro e w6 ⟨rfl, hf6⟩
      have HF06 : Hid (Fr (fun _ => False) w0 w6) := (HF4.out.trans HF5.out (fun _ _ h => h)).trans hf6 (fun _ _ h => h)
      have HO6 : Hid (OwnPs w6 w2.heap.size (.slice aoL L.length cL) L) := (HO4.out.kept HF5.out (fun _ _ h => h)).kept hf6 (fun _ _ h => h)
      clear hf6 c0 c1 c2 HEB HS4 HO4 HO3 HF5 HF4 HF3 HF2 HF1
      have HCT : Hid (∀ w', Fr (fun _ => False) w0 w' → Calls Try.prog 23 #[.agg #[.int .i64 W, .int .i64 H, .slice ao n cap]] w' fun e w'' => e = .returned (.int .i64 (cnt W H P : Nat)) ∧ Fr (fun _ => False) w' w'') := fun w' f => by
        have hb := HBm.out w' (HA.out.trans f (fun _ _ h => h))
        exact zcount_any W H _ P w' hb.seen hb.h1 hb.h2 hb.h3
      have HIN : Hid (∀ (I : Nat) (h : I < L.length), 1 ≤ L[I].1.W ∧ 1 ≤ L[I].1.H ∧ L[I].1.X + L[I].1.W ≤ W ∧ L[I].1.Y + L[I].1.H ≤ H ∧ L[I].1.W * L[I].1.H ≤ 1048576) := fun I h => by
        have hm : L[I].1 ∈ L.map (·.1) := List.mem_map.2 ⟨_, List.getElem_mem h, rfl⟩
        have h1 := pcs_in HPS.out hm
        exact ⟨h1.1, h1.2.1, h1.2.2.1, h1.2.2.2, pcs_area HPS.out HW.out.2.2 hm⟩
      have HSE : Hid (∀ w', Fr (fun _ => False) w6 w' → ∀ (I : Nat) (h : I < L.length), Bm w' (.slice (some ⟨L[I].2.1, 0, none⟩) (L[I].1.H * stride L[I].1.W) L[I].2.2) L[I].1.W L[I].1.H L[I].1.Q) := fun w' f I h => by
        obtain ⟨i1, i2, _, _, i5⟩ := HIN.out I h
        have hr := ((HO6.out.kept f (fun _ _ h => h)).at_ L[I] (List.getElem_mem h)).1
        refine ⟨hr.seen (size_facts i1 i2 i5).2.2, fun ao n c e => ?_, i1, i2, i5⟩
        simp only [Value.slice.injEq] at e
        obtain ⟨_, rfl, rfl⟩ := e
        rcases of_slice hr with ⟨a, b⟩
        exact ⟨a, b⟩
      have HRD : Hid (∀ w', Fr (fun _ => False) w6 w' → ∀ (I : Nat) (h : I < L.length), ∃ gL, aoL = some ⟨gL, 0, none⟩ ∧ w'.cell? ⟨gL, I * 5, none⟩ = some (.int .i64 (L[I].1.X : Nat)) ∧ w'.cell? ⟨gL, I * 5 + 1, none⟩ = some (.int .i64 (L[I].1.Y : Nat)) ∧ w'.cell? ⟨gL, I * 5 + 2, none⟩ = some (.int .i64 (L[I].1.W : Nat)) ∧ w'.cell? ⟨gL, I * 5 + 3, none⟩ = some (.int .i64 (L[I].1.H : Nat)) ∧ w'.cell? ⟨gL, I * 5 + 4, none⟩ = some (.slice (some ⟨L[I].2.1, 0, none⟩) (L[I].1.H * stride L[I].1.W) L[I].2.2)) := fun w' f I h => by
        have ho := (HO6.out.kept f (fun _ _ h => h)).own
        obtain ⟨gL, kL, e, _⟩ := row_form ho (by omega)
        simp only [Value.slice.injEq] at e
        obtain ⟨rfl, _, rfl⟩ := e
        obtain ⟨a0, a1, a2, a3, a4⟩ := cellsPs_at L I h
        rw [← ho.cellAt _ (by omega)] at a0 a1 a2 a3 a4
        exact ⟨gL, rfl, a0, a1, a2, a3, a4⟩
      have HCB : Hid (∀ k, k ≤ L.length → csum (L.take k) ≤ 1048576) := fun k hk => csum_le HFS.out HPS.out HW.out.2.2 k hk
      have HCA : Hid (csum L = cnt W H P) := csum_all HFS.out HPS.out
      have HCC : Hid (∀ w', Fr (fun _ => False) w6 w' → ∀ (I : Nat) (h : I < L.length), Calls Try.prog 23 #[.agg #[.int .i64 (L[I].1.W : Nat), .int .i64 (L[I].1.H : Nat), .slice (some ⟨L[I].2.1, 0, none⟩) (L[I].1.H * stride L[I].1.W) L[I].2.2]] w' fun e w'' => e = .returned (.int .i64 (cnt L[I].1.W L[I].1.H L[I].1.Q : Nat)) ∧ Fr (fun _ => False) w' w'') := fun w' f I h => by
        have hb := HSE.out w' f I h
        exact zcount_any _ _ _ _ w' hb.seen hb.h1 hb.h2 hb.h3
      have HAL : Hid (∀ (I : Nat) (h : I < L.length) (fs' : List (Nat × Nat)) (l' : List Pc), Firsts (Bk L[I].1.W L[I].1.H L[I].1.Q) fs' → Pcs (Bk L[I].1.W L[I].1.H L[I].1.Q) fs' l' → ∃ m, l' = [m] ∧ same m ⟨0, 0, L[I].1.W, L[I].1.H, L[I].1.Q⟩) := fun I h fs' l' h1 h2 => by
        obtain ⟨f, _, hi⟩ := HPS.out.at (k := I) (p := L[I].1) (by rw [List.getElem?_map, List.getElem?_eq_getElem h]; rfl)
        exact alone_pcs hi h1 h2
      have hLb := of_len HO6.out.own
      clear HFS HPS HO6
      go_wp2_with fail
      go_loopg [8] L.length (fun q ii wr => ∃ I : Nat, I + q = L.length ∧ ii = .int .i64 I ∧ Fr (fun _ => False) w6 wr)
      case atStart => exact ⟨0, by omega, rfl, Fr.refl _ _⟩
      case round =>
        obtain ⟨I, hIq, rfl, hfr⟩ := hrel
        have HFr : Hid (Fr (fun _ => False) w6 wr) := hfr
        clear hfr
        by_cases hIL : I < L.length
        · have dI : decide (I < L.length) = true := decide_eq_true hIL
          by_cases hI2 : I < 200
          · have dI2 : decide ((I : Int) < 200) = true := decide_eq_true (by omega)
            obtain ⟨gL, rfl, k0, k1, k2, k3, k4⟩ := HRD.out wr HFr.out I hIL
            obtain ⟨i1, i2, i3, i4, i5⟩ := HIN.out I hIL
            have HBQ : Hid (∀ w', Fr (fun _ => False) w6 w' → Bm w' (.slice (some ⟨L[I].2.1, 0, none⟩) (L[I].1.H * stride L[I].1.W) L[I].2.2) L[I].1.W L[I].1.H L[I].1.Q) := fun w' f => HSE.out w' f I hIL
            have HAQ : Hid (∀ (fs' : List (Nat × Nat)) (l' : List Pc), Firsts (Bk L[I].1.W L[I].1.H L[I].1.Q) fs' → Pcs (Bk L[I].1.W L[I].1.H L[I].1.Q) fs' l' → ∃ m, l' = [m] ∧ same m ⟨0, 0, L[I].1.W, L[I].1.H, L[I].1.Q⟩) := HAL.out I hIL
            generalize L[I].1.X = pX at *
            generalize L[I].1.Y = pY at *
            generalize L[I].1.W = pW at *
            generalize L[I].1.H = pH at *
            generalize L[I].2.1 = pg at *
            generalize L[I].2.2 = pc at *
            generalize L[I].1.Q = pQ at *
            generalize hpn : pH * stride pW = pn at *
            have HPN : Hid (pH * stride pW = pn) := hpn
            clear hpn
            have HNB : Hid (∀ w', Fr (fun _ => False) (wr.alloc (.cells #[.int .i64 pX, .int .i64 pY, .int .i64 pW, .int .i64 pH, .slice (some ⟨pg, 0, none⟩) pn pc] 34)) w' → w'.cell? ⟨wr.heap.size, 0, none⟩ = some (.int .i64 pX) ∧ w'.cell? ⟨wr.heap.size, 1, none⟩ = some (.int .i64 pY) ∧ w'.cell? ⟨wr.heap.size, 2, none⟩ = some (.int .i64 pW) ∧ w'.cell? ⟨wr.heap.size, 3, none⟩ = some (.int .i64 pH) ∧ w'.cell? ⟨wr.heap.size, 4, none⟩ = some (.slice (some ⟨pg, 0, none⟩) pn pc)) := fun w' f => by
              obtain ⟨z0, z1, z2, z3, z4, _⟩ := cell_of_five (blkOld f (heap_alloc_new wr (.cells #[.int .i64 pX, .int .i64 pY, .int .i64 pW, .int .i64 pH, .slice (some ⟨pg, 0, none⟩) pn pc] 34)))
              exact ⟨z0, z1, z2, z3, z4⟩
            have HFA : Hid (Fr (fun _ => False) w6 (wr.alloc (.cells #[.int .i64 pX, .int .i64 pY, .int .i64 pW, .int .i64 pH, .slice (some ⟨pg, 0, none⟩) pn pc] 34))) := HFr.out.alloc _
            obtain ⟨n0, n1, n2, n3, n4'⟩ := HNB.out _ (Fr.refl _ _)
            have HMQ : Hid (Calls Try.prog 21 #[.agg #[.int .i64 pW, .int .i64 pH, .slice (some ⟨pg, 0, none⟩) pn pc]] (wr.alloc (.cells #[.int .i64 pX, .int .i64 pY, .int .i64 pW, .int .i64 pH, .slice (some ⟨pg, 0, none⟩) pn pc] 34)) fun e w'' => e = .returned (.bool true) ∧ Fr (fun _ => False) (wr.alloc (.cells #[.int .i64 pX, .int .i64 pY, .int .i64 pW, .int .i64 pH, .slice (some ⟨pg, 0, none⟩) pn pc] 34)) w'') := by
              have := may_any pW pH _ (render pW pH pQ) _ (by omega) (by omega) (HBQ.out _ HFA.out).seen (render_lt' _ _ _)
              rwa [render_valid pW pH pQ i1 i2 i5] at this
            go_wp2_with fail
            generalize hwa : wr.alloc (.cells #[.int .i64 pX, .int .i64 pY, .int .i64 pW, .int .i64 pH, .slice (some ⟨pg, 0, none⟩) pn pc] 34) = wa at *
            clear hwa
            refine HMQ.out.mono ?_
            rintro e w7 ⟨rfl, hf7⟩
            have HF7 : Hid (Fr (fun _ => False) wa w7) := hf7
            clear n0 n1 n2 n3 n4' k0 k1 k2 k3 k4 hf7
            obtain ⟨n0, n1, n2, n3, n4'⟩ := HNB.out _ HF7.out
            obtain ⟨c0, c1, c2⟩ := HBX.out _ (HF06.out.trans (HFA.out.trans HF7.out (fun _ _ h => h)) (fun _ _ h => h))
            have g1 : IntKind.i64.wrap ((pX : Int) + (pW : Int)) = ((pX + pW : Nat) : Int) := by rw [IntKind.wrap_i64]; omega
            have g2 : IntKind.i64.wrap ((pY : Int) + (pH : Int)) = ((pY + pH : Nat) : Int) := by rw [IntKind.wrap_i64]; omega
            have d1 : decide ((pX : Int) < 0) = false := decide_eq_false (by omega)
            have d2 : decide ((pY : Int) < 0) = false := decide_eq_false (by omega)
            have d3 : decide (W < pX + pW) = false := decide_eq_false (by omega)
            have d4 : decide (H < pY + pH) = false := decide_eq_false (by omega)
            have HB7 : Hid (Bm w7 (.slice (some ⟨pg, 0, none⟩) pn pc) pW pH pQ) := HBQ.out _ (HFA.out.trans HF7.out (fun _ _ h => h))
            go_wp2_with fail
            refine (cof_ok pW pH _ pQ w7 HB7.out).mono ?_
            rintro e w8 ⟨rm, M, fm, rfl, hom, hfm, hpm, hf8⟩
            obtain ⟨m, hm1, hsm⟩ := HAQ.out fm _ hfm hpm
            obtain ⟨qm, rfl⟩ : ∃ qm, M = [qm] := by
              match M, hm1 with
              | [qm], _ => exact ⟨qm, rfl⟩
            simp only [List.map_cons, List.map_nil, List.cons.injEq, and_true] at hm1
            subst hm1
            obtain ⟨s1, s2, s3, s4, s5⟩ := hsm
            simp only at s1 s2 s3 s4 s5
            obtain ⟨gm, cm, rfl, _⟩ := row_form hom.own (by simp)
            have HF8 : Hid (Fr (fun _ => False) wa w8) := HF7.out.trans hf8 (fun _ _ h => h)
            have HMC : Hid (∀ w', Fr (fun _ => False) w8 w' → w'.cell? ⟨gm, 0, none⟩ = some (.int .i64 0) ∧ w'.cell? ⟨gm, 1, none⟩ = some (.int .i64 0) ∧ w'.cell? ⟨gm, 2, none⟩ = some (.int .i64 pW) ∧ w'.cell? ⟨gm, 3, none⟩ = some (.int .i64 pH) ∧ w'.cell? ⟨gm, 4, none⟩ = some (.slice (some ⟨qm.2.1, 0, none⟩) pn qm.2.2) ∧ w'.cell? ⟨wr.heap.size, 2, none⟩ = some (.int .i64 pW) ∧ w'.cell? ⟨wr.heap.size, 3, none⟩ = some (.int .i64 pH) ∧ w'.cell? ⟨wr.heap.size, 4, none⟩ = some (.slice (some ⟨pg, 0, none⟩) pn pc)) := fun w' f => by
              have ho := (hom.kept f (fun _ _ h => h)).own
              obtain ⟨a0, a1, a2, a3, a4⟩ := cellsPs_at [qm] 0 (by simp)
              rw [← ho.cellAt _ (by simp)] at a0 a1 a2 a3 a4
              simp only [List.getElem_cons_zero, s1, s2, s3, s4, HPN.out] at a0 a1 a2 a3 a4
              obtain ⟨_, _, b2, b3, b4⟩ := HNB.out w' (HF8.out.trans f (fun _ _ h => h))
              exact ⟨a0, a1, a2, a3, a4, b2, b3, b4⟩
            have HEQ : Hid (∀ w', Fr (fun _ => False) w8 w' → Calls Try.prog 20 #[.agg #[.int .i64 pW, .int .i64 pH, .slice (some ⟨qm.2.1, 0, none⟩) pn qm.2.2], .agg #[.int .i64 pW, .int .i64 pH, .slice (some ⟨pg, 0, none⟩) pn pc]] w' fun e w'' => e = .returned (.bool true) ∧ Fr (fun _ => False) w' w'') := fun w' f => by
              have hr := ((hom.kept f (fun _ _ h => h)).at_ qm (by simp)).1
              have hsn := hr.seen (by rw [s3, s4]; exact (size_facts i1 i2 i5).2.2)
              rw [s3, s4, HPN.out, render_congr (P := qm.1.Q) (Q := pQ) (fun x y hx hy => s5 x y (by omega) (by omega))] at hsn
              exact eqBitmap_same pW pH _ _ _ w' hsn (HBQ.out _ ((HFA.out.trans HF8.out (fun _ _ h => h)).trans f (fun _ _ h => h))).seen
            clear hom hfm hpm hf8 s1 s2 s3 s4 s5 n0 n1 n2 n3 n4' c0 c1 c2
            generalize qm.2.1 = qg at *
            generalize qm.2.2 = qc at *
            go_wp2_with fail
            go_region_held3 (fun w' => w'.cell? ⟨gm, 0, none⟩ = some (.int .i64 0) ∧ w'.cell? ⟨gm, 1, none⟩ = some (.int .i64 0) ∧ w'.cell? ⟨gm, 2, none⟩ = some (.int .i64 pW) ∧ w'.cell? ⟨gm, 3, none⟩ = some (.int .i64 pH) ∧ w'.cell? ⟨gm, 4, none⟩ = some (.slice (some ⟨qg, 0, none⟩) pn qc) ∧ w'.cell? ⟨wr.heap.size, 2, none⟩ = some (.int .i64 pW) ∧ w'.cell? ⟨wr.heap.size, 3, none⟩ = some (.int .i64 pH) ∧ w'.cell? ⟨wr.heap.size, 4, none⟩ = some (.slice (some ⟨pg, 0, none⟩) pn pc)) (exact HMC.out _ (by repeat (first | with_reducible exact Fr.refl _ _ | with_reducible refine Fr.drew ?_ | with_reducible exact hf9))) (first | (go_at_call 20; refine (HEQ.out _ (Fr.refl _ _).drew).mono ?_; rintro e w9 ⟨rfl, hf9'⟩; have hf9 : Fr (fun _ => False) w8 w9 := (Fr.refl _ _).drew.trans hf9' (fun _ _ h => h)))
            have HF9 : Hid (Fr (fun _ => False) w6 w9) := (HFA.out.trans HF8.out (fun _ _ h => h)).trans hf9 (fun _ _ h => h)
            clear hf9 hf9'
            go_wp2_with fail
            go_roundg (L.length - (I + 1))
            case measure => omega
            case rel => exact ⟨I + 1, by omega, rfl, HF9.out⟩
          · have dI2 : decide ((I : Int) < 200) = false := decide_eq_false (by omega)
            clear hIq hI2
            go_wp2_with fail
            go_loopg [7, 12] L.length (fun q nn ii wr => ∃ I : Nat, I + q = L.length ∧ ii = .int .i64 I ∧ nn = .int .i64 (csum (L.take I) : Nat) ∧ Fr (fun _ => False) w6 wr)
            case atStart => exact ⟨0, by omega, rfl, rfl, HFr.out⟩
            case round =>
              clear HFr dI hIL
              obtain ⟨I, hIq, rfl, rfl, hfr⟩ := hrel
              have HFr : Hid (Fr (fun _ => False) w6 wr) := hfr
              clear hfr
              by_cases hIL : I < L.length
              · have dI : decide (I < L.length) = true := decide_eq_true hIL
                obtain ⟨gL, rfl, k0, k1, k2, k3, k4⟩ := HRD.out wr HFr.out I hIL
                have HCQ : Hid (Calls Try.prog 23 #[.agg #[.int .i64 (L[I].1.W : Nat), .int .i64 (L[I].1.H : Nat), .slice (some ⟨L[I].2.1, 0, none⟩) (L[I].1.H * stride L[I].1.W) L[I].2.2]] wr fun e w'' => e = .returned (.int .i64 (cnt L[I].1.W L[I].1.H L[I].1.Q : Nat)) ∧ Fr (fun _ => False) wr w'') := HCC.out wr HFr.out I hIL
                have HCS : Hid (csum (L.take (I + 1)) = csum (L.take I) + cnt L[I].1.W L[I].1.H L[I].1.Q) := csum_take L I hIL
                have hcb := HCB.out (I + 1) (by omega)
                rw [HCS.out] at hcb
                generalize L[I].1.X = pX at *
                generalize L[I].1.Y = pY at *
                generalize L[I].1.W = pW at *
                generalize L[I].1.H = pH at *
                generalize L[I].2.1 = pg at *
                generalize L[I].2.2 = pc at *
                generalize L[I].1.Q = pQ at *
                generalize cnt pW pH pQ = cc at *
                generalize hc0 : csum (L.take I) = c0' at *
                have g1 : IntKind.i64.wrap ((c0' : Int) + (cc : Int)) = ((c0' + cc : Nat) : Int) := by rw [IntKind.wrap_i64]; omega
                go_wp2_with fail
                refine HCQ.out.mono ?_
                rintro e w7 ⟨rfl, hf7⟩
                have HF7 : Hid (Fr (fun _ => False) w6 w7) := HFr.out.trans hf7 (fun _ _ h => h)
                clear hf7 k0 k1 k2 k3 k4
                go_wp2_with fail
                go_roundg (L.length - (I + 1))
                case measure => omega
                case rel => exact ⟨I + 1, by omega, rfl, congrArg (fun x : Nat => Value.int .i64 (x : Int)) HCS.out.symm, HF7.out⟩
              · have dI : decide (I < L.length) = false := decide_eq_false hIL
                have HCE : Hid (csum (L.take I) = cnt W H P) := by
                  rw [show I = L.length by omega, List.take_length]; exact HCA.out
                rw [HCE.out]
                obtain ⟨c0, c1, c2⟩ := HBX.out _ (HF06.out.trans HFr.out (fun _ _ h => h))
                go_wp2_with fail
                refine (HCT.out _ (HF06.out.trans HFr.out (fun _ _ h => h))).mono ?_
                rintro e w7 ⟨rfl, hf7⟩
                have HF7 : Hid (Fr (fun _ => False) w6 w7) := HFr.out.trans hf7 (fun _ _ h => h)
                clear hf7 c0 c1 c2
                go_wp2_with fail
                refine (wakes_any _).mono ?_
                rintro e w8 ⟨rfl, hf8⟩
                have HF8 : Hid (Fr (fun _ => False) w w8) := ((HA.out.trans HF06.out (fun _ _ h => h)).trans HF7.out (fun _ _ h => h)).trans hf8 (fun _ _ h => h)
                clear hf8
                go_wp2_with fail
                go_ret
                exact ⟨rfl, HF8.out⟩
        · have dI : decide (I < L.length) = false := decide_eq_false hIL
          clear hIq
          go_wp2_with fail
          go_loopg [7, 12] L.length (fun q nn ii wr => ∃ I : Nat, I + q = L.length ∧ ii = .int .i64 I ∧ nn = .int .i64 (csum (L.take I) : Nat) ∧ Fr (fun _ => False) w6 wr)
          case atStart => exact ⟨0, by omega, rfl, rfl, HFr.out⟩
          case round =>
            clear HFr dI hIL
            obtain ⟨I, hIq, rfl, rfl, hfr⟩ := hrel
            have HFr : Hid (Fr (fun _ => False) w6 wr) := hfr
            clear hfr
            by_cases hIL : I < L.length
            · have dI : decide (I < L.length) = true := decide_eq_true hIL
              obtain ⟨gL, rfl, k0, k1, k2, k3, k4⟩ := HRD.out wr HFr.out I hIL
              have HCQ : Hid (Calls Try.prog 23 #[.agg #[.int .i64 (L[I].1.W : Nat), .int .i64 (L[I].1.H : Nat), .slice (some ⟨L[I].2.1, 0, none⟩) (L[I].1.H * stride L[I].1.W) L[I].2.2]] wr fun e w'' => e = .returned (.int .i64 (cnt L[I].1.W L[I].1.H L[I].1.Q : Nat)) ∧ Fr (fun _ => False) wr w'') := HCC.out wr HFr.out I hIL
              have HCS : Hid (csum (L.take (I + 1)) = csum (L.take I) + cnt L[I].1.W L[I].1.H L[I].1.Q) := csum_take L I hIL
              have hcb := HCB.out (I + 1) (by omega)
              rw [HCS.out] at hcb
              generalize L[I].1.X = pX at *
              generalize L[I].1.Y = pY at *
              generalize L[I].1.W = pW at *
              generalize L[I].1.H = pH at *
              generalize L[I].2.1 = pg at *
              generalize L[I].2.2 = pc at *
              generalize L[I].1.Q = pQ at *
              generalize cnt pW pH pQ = cc at *
              generalize hc0 : csum (L.take I) = c0' at *
              have g1 : IntKind.i64.wrap ((c0' : Int) + (cc : Int)) = ((c0' + cc : Nat) : Int) := by rw [IntKind.wrap_i64]; omega
              go_wp2_with fail
              refine HCQ.out.mono ?_
              rintro e w7 ⟨rfl, hf7⟩
              have HF7 : Hid (Fr (fun _ => False) w6 w7) := HFr.out.trans hf7 (fun _ _ h => h)
              clear hf7 k0 k1 k2 k3 k4
              go_wp2_with fail
              go_roundg (L.length - (I + 1))
              case measure => omega
              case rel => exact ⟨I + 1, by omega, rfl, congrArg (fun x : Nat => Value.int .i64 (x : Int)) HCS.out.symm, HF7.out⟩
            · have dI : decide (I < L.length) = false := decide_eq_false hIL
              have HCE : Hid (csum (L.take I) = cnt W H P) := by
                rw [show I = L.length by omega, List.take_length]; exact HCA.out
              rw [HCE.out]
              obtain ⟨c0, c1, c2⟩ := HBX.out _ (HF06.out.trans HFr.out (fun _ _ h => h))
              go_wp2_with fail
              refine (HCT.out _ (HF06.out.trans HFr.out (fun _ _ h => h))).mono ?_
              rintro e w7 ⟨rfl, hf7⟩
              have HF7 : Hid (Fr (fun _ => False) w6 w7) := HFr.out.trans hf7 (fun _ _ h => h)
              clear hf7 c0 c1 c2
              go_wp2_with fail
              refine (wakes_any _).mono ?_
              rintro e w8 ⟨rfl, hf8⟩
              have HF8 : Hid (Fr (fun _ => False) w w8) := ((HA.out.trans HF06.out (fun _ _ h => h)).trans HF7.out (fun _ _ h => h)).trans hf8 (fun _ _ h => h)
              clear hf8
              go_wp2_with fail
              go_ret
              exact ⟨rfl, HF8.out⟩

end Go.Proofs.Ytgpciopoionmeaa
