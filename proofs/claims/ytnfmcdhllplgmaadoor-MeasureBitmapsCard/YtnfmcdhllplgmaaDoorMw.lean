/- The law 'MeasureBitmaps'. -/
import Derived.Test.YtnfmcdhllplgmaaDoorMv
namespace Go.Proofs.YtnfmcdhllplgmaaDoor
open Go.RowKit Ieee

set_option maxRecDepth 100000 in
set_option maxHeartbeats 8000000 in
theorem bitmapsLaw_any (ao : Option Addr) (n cap : Nat) (A : Nat → Bp) (w : World) (h : BpsAt w ao n A) (hT : Tab w) (h1w : 1 < w.heap.size) :
    Calls Tryd.prog 3 #[.slice ao n cap] w fun e w' => e = .returned (.bool true) ∧ Fr (fun _ => False) w w' := by
  have hl := h.len
  have HT : Hid (∀ w', Fr (fun _ => False) w w' → Tab w' ∧ 1 < w'.heap.size) := fun w' f => ⟨hT.kept f h1w (fun h => h), Nat.lt_of_lt_of_le h1w f.size⟩
  have HC : Hid (∀ j, j < n → ∃ b off ao1 cap1, ao = some ⟨b, off, none⟩ ∧ BpOK w (A j) ∧ (A j).v = .slice ao1 (A j).l.length cap1 ∧ ∀ w', Fr (fun _ => False) w w' → w'.cell? ⟨b, off + j * 3, none⟩ = some (.int .i64 (A j).x) ∧ w'.cell? ⟨b, off + j * 3 + 1, none⟩ = some (.int .i64 (A j).y) ∧ w'.cell? ⟨b, off + j * 3 + 2, none⟩ = some (A j).v) := fun j hj => by
    have hok := h.ok j hj
    obtain ⟨ao1, cap1, e1, _, _⟩ := hok.hv
    obtain ⟨b, off, e2, hc⟩ := h.cells (by omega)
    obtain ⟨k0, k1, k2⟩ := hc j hj
    exact ⟨b, off, ao1, cap1, e2, hok, e1, fun w' f => ⟨by rw [f.cellEq (seen_lt k0) (fun h => h)]; exact k0, by rw [f.cellEq (seen_lt k1) (fun h => h)]; exact k1, by rw [f.cellEq (seen_lt k2) (fun h => h)]; exact k2⟩⟩
  clear h hT h1w
  go_enter Tryd.func3, Tryd.ntmps3
  go_wp2_with fail
  go_loopg [3, 4, 5, 6, 7, 8, 9, 10, 11, 12, 13, 14, 15] 5 (fun q i _ _ _ _ _ _ _ _ _ _ _ _ wr => ∃ j : Nat, j + q = 5 ∧ i = .int .i64 j ∧ Fr (fun _ => False) w wr)
  case atStart => exact ⟨0, by omega, rfl, Fr.refl _ _⟩
  case round =>
    obtain ⟨j, hjq, rfl, hfr⟩ := hrel
    have HFr : Hid (Fr (fun _ => False) w wr) := hfr
    clear hfr
    by_cases hjn : j < n ∧ j < 5
    · obtain ⟨hj1, hj2⟩ := hjn
      have d1 : decide (j < n) = true := decide_eq_true hj1
      have d2 : decide (j < 5) = true := decide_eq_true hj2
      obtain ⟨b, off, ao1, cap1, rfl, hok, hev, hk⟩ := HC.out j hj1
      rw [hev] at hk
      have HCL : Hid (∀ w', Fr (fun _ => False) w w' → w'.cell? ⟨b, off + j * 3, none⟩ = some (.int .i64 (A j).x) ∧ w'.cell? ⟨b, off + j * 3 + 1, none⟩ = some (.int .i64 (A j).y) ∧ w'.cell? ⟨b, off + j * 3 + 2, none⟩ = some (.slice ao1 (A j).l.length cap1)) := hk
      have HSN : Hid (∀ w', Fr (fun _ => False) w w' → Seen w' (.slice ao1 (A j).l.length cap1) (A j).l) := fun w' f => by have := hok.hv.kept f; rwa [hev] at this
      have HNL : Hid (NilOK (.slice ao1 (A j).l.length cap1)) := by have := hok.hn; rwa [hev] at this
      have HMY : Hid (∀ w', Fr (fun _ => False) w w' → Calls Tryd.prog 9 #[.agg #[.int .i64 (A j).x, .int .i64 (A j).y, .slice ao1 (A j).l.length cap1]] w' fun e w'' => e = .returned (.bool (validB (A j).x (A j).y (A j).l)) ∧ Fr (fun _ => False) w' w'') := fun w' f => may_any _ _ _ _ _ hok.hx hok.hy (HSN.out _ f) hok.hlt
      obtain ⟨er, PA, PD, PX, PY, HA1, HD1, HX1, HE1⟩ := ms_all (A j).x (A j).y (A j).l hok.hx hok.hy hok.hlt
      have HAS : Hid (∀ (w : World) (v : Value), Seen w v (A j).l → Calls Tryd.prog 5 #[.agg #[.int .i64 (A j).x, .int .i64 (A j).y, v]] w fun e w' => ∃ a, e = .returned (.tuple #[.float .f64 a, .int .i64 er]) ∧ PA a ∧ Fr (fun _ => False) w w') := HA1
      have HDS : Hid (∀ (w : World) (v : Value), Seen w v (A j).l → Calls Tryd.prog 6 #[.agg #[.int .i64 (A j).x, .int .i64 (A j).y, v]] w fun e w' => ∃ a, e = .returned (.tuple #[.float .f64 a, .int .i64 er]) ∧ PD a ∧ Fr (fun _ => False) w w') := HD1
      have HXS : Hid (∀ (w : World) (v : Value), Seen w v (A j).l → Tab w → 1 < w.heap.size → Calls Tryd.prog 7 #[.agg #[.int .i64 (A j).x, .int .i64 (A j).y, v]] w fun e w' => ∃ a b, e = .returned (.tuple #[.float .f64 a, .float .f64 b, .int .i64 er]) ∧ PX a ∧ PY b ∧ Fr (fun _ => False) w w') := HX1
      have HES : Hid _ := HE1
      clear hk hok hev HA1 HD1 HX1 HE1
      obtain ⟨ll, hll⟩ : ∃ ll, ll = (A j).l := ⟨_, rfl⟩
      rw [← hll] at HCL HSN HNL HMY HAS HDS HXS HES
      clear hll
      generalize (A j).x = x at *
      generalize (A j).y = y at *
      obtain ⟨nl, hnl⟩ : ∃ nl, nl = ll.length := ⟨_, rfl⟩
      have HNN : Hid (nl = ll.length) := hnl
      rw [← hnl] at HCL HSN HNL HMY
      clear hnl
      obtain ⟨c0, c1, c2⟩ := HCL.out wr HFr.out
      by_cases hbig : 312 < nl
      · have d3 : decide (312 < nl) = true := decide_eq_true hbig
        go_wp2_with fail
        go_roundg (5 - (j + 1))
        case measure => omega
        case rel => exact ⟨j + 1, by omega, congrArg (Value.int .i64) (by omega), HFr.out⟩
      · have d3 : decide (312 < nl) = false := decide_eq_false hbig
        go_wp2_with fail
        have HLD : Hid (Calls Tryd.prog 4 #[.agg #[.int .i64 x, .int .i64 y, .slice ao1 nl cap1]] wr fun e w' => ∃ g, e = .returned (.agg #[.int .i64 x, .int .i64 y, .slice (some ⟨g, 0, none⟩) nl (nl + 7)]) ∧ Lent w' g ll ∧ wr.heap.size ≤ g ∧ Fr (fun _ => False) wr w') := by
          have := lendB_any x y _ ll wr (HSN.out _ HFr.out) HNL.out (by have := HNN.out; omega)
          rwa [← HNN.out] at this
        refine HLD.out.mono ?_
        rintro e w2 ⟨g, rfl, hl2, hg2, hf2⟩
        clear HLD
        have HL2 : Hid (∀ w', Fr (fun _ => False) w2 w' → Lent w' g ll) := fun w' f => hl2.kept f (fun h => h)
        have HG2 : Hid (wr.heap.size ≤ g ∧ g < w2.heap.size) := ⟨hg2, hl2.lt⟩
        have HF2 : Hid (Fr (fun _ => False) w (w2.alloc (.cells #[.int .i64 x, .int .i64 y, .slice (some ⟨g, 0, none⟩) nl (nl + 7)] 25))) := (HFr.out.trans hf2 (fun _ _ h => h)).alloc _
        have HBX : Hid (∀ w', Fr (fun k => k = g) (w2.alloc (.cells #[.int .i64 x, .int .i64 y, .slice (some ⟨g, 0, none⟩) nl (nl + 7)] 25)) w' → w'.cell? ⟨w2.heap.size, 0, none⟩ = some (.int .i64 x) ∧ w'.cell? ⟨w2.heap.size, 1, none⟩ = some (.int .i64 y) ∧ w'.cell? ⟨w2.heap.size, 2, none⟩ = some (.slice (some ⟨g, 0, none⟩) nl (nl + 7))) := fun w' hf => by
          obtain ⟨q0, q1, q2, _⟩ := cell_of_three ((hf.block w2.heap.size (by simp) (by have := HG2.out; omega)).trans (heap_alloc_new w2 _))
          exact ⟨q0, q1, q2⟩
        have HL3 : Hid (Fr (fun _ => False) w2 (w2.alloc (.cells #[.int .i64 x, .int .i64 y, .slice (some ⟨g, 0, none⟩) nl (nl + 7)] 25))) := (Fr.refl _ _).alloc _
        clear hl2 hg2 hf2 c0 c1 c2
        go_wp2_with fail
        generalize w2.alloc (.cells #[.int .i64 x, .int .i64 y, .slice (some ⟨g, 0, none⟩) nl (nl + 7)] 25) = w3 at *
        have HLS : Hid (∀ w', Fr (fun _ => False) w3 w' → Seen w' (.slice (some ⟨g, 0, none⟩) nl (nl + 7)) ll) := fun w' f => by
          have := (HL2.out _ (HL3.out.trans f (fun _ _ h => h))).seen (by have := HNN.out; omega)
          rwa [← HNN.out] at this
        refine (HAS.out w3 _ (HLS.out _ (Fr.refl _ _))).mono ?_
        rintro e w4 ⟨va, rfl, hpa, hf4⟩
        have HPA : Hid (PA va) := hpa
        have HF4 : Hid (Fr (fun _ => False) w3 w4) := hf4
        clear hpa hf4
        obtain ⟨c0, c1, c2⟩ := HBX.out w4 (HF4.out.mono (fun _ _ h => h.elim))
        go_wp2_with fail
        refine (HDS.out w4 _ (HLS.out _ HF4.out)).mono ?_
        rintro e w5 ⟨vd, rfl, hpd, hf5⟩
        have HPD : Hid (PD vd) := hpd
        have HF5 : Hid (Fr (fun _ => False) w3 w5) := HF4.out.trans hf5 (fun _ _ h => h)
        clear hpd hf5 HF4 c0 c1 c2
        obtain ⟨c0, c1, c2⟩ := HBX.out w5 (HF5.out.mono (fun _ _ h => h.elim))
        go_wp2_with fail
        have HXS5 := HXS.out w5 _ (HLS.out _ HF5.out) (HT.out _ (HF2.out.trans HF5.out (fun _ _ h => h))).1 (HT.out _ (HF2.out.trans HF5.out (fun _ _ h => h))).2
        refine HXS5.mono ?_
        rintro e w6 ⟨vx, vy, rfl, hpx, hpy, hf6⟩
        clear HXS5
        have HPX : Hid (PX vx) := hpx
        have HPY : Hid (PY vy) := hpy
        have HF6 : Hid (Fr (fun _ => False) w3 w6) := HF5.out.trans hf6 (fun _ _ h => h)
        clear hpx hpy hf6 HF5 c0 c1 c2
        have HFg : Hid (∀ w', Fr (fun k => k = g) w6 w' → Fr (fun _ => False) w w') := fun w' f => (HF2.out.trans HF6.out (fun _ _ h => h)).trans f (fun i hi e => by have := HG2.out; have := HFr.out.size; omega)
        have HS : Hid (∀ w', Fr (fun k => k = g) w6 w' → (w'.cell? ⟨w2.heap.size, 0, none⟩ = some (.int .i64 x) ∧ w'.cell? ⟨w2.heap.size, 1, none⟩ = some (.int .i64 y) ∧ w'.cell? ⟨w2.heap.size, 2, none⟩ = some (.slice (some ⟨g, 0, none⟩) nl (nl + 7))) ∧ (w'.cell? ⟨b, off + j * 3, none⟩ = some (.int .i64 x) ∧ w'.cell? ⟨b, off + j * 3 + 1, none⟩ = some (.int .i64 y) ∧ w'.cell? ⟨b, off + j * 3 + 2, none⟩ = some (.slice ao1 nl cap1))) := fun w' f => ⟨HBX.out _ ((HF6.out.mono (fun _ _ h => h.elim)).trans f (fun _ _ h => h)), HCL.out _ (HFg.out _ f)⟩
        have HBK : Hid (∀ w', Fr (fun _ => False) w6 w' → Calls Tryd.prog 8 #[.agg #[.int .i64 x, .int .i64 y, .slice (some ⟨g, 0, none⟩) nl (nl + 7)], .agg #[.int .i64 x, .int .i64 y, .slice ao1 nl cap1]] w' fun e w'' => e = .returned (.bool true) ∧ Fr (fun k => k = g) w' w'') := fun w' f => by
          have hlen := HNN.out
          have h1 := HL2.out _ ((HL3.out.trans HF6.out (fun _ _ h => h)).trans f (fun _ _ h => h))
          have := backB_any x y g (.slice ao1 nl cap1) ll w' (by omega) h1 (HSN.out _ (HFg.out _ (f.mono (fun _ _ h => h.elim))))
          rwa [← hlen] at this
        clear HLS HBX HL2 HL3 HAS HDS HXS
        obtain ⟨⟨c0, c1, c2⟩, ⟨e0, e1, e2⟩⟩ := HS.out w6 (Fr.refl _ _)
        go_upto_region 9 with (fail)
        go_region_held3 (fun w' => (w'.cell? ⟨w2.heap.size, 0, none⟩ = some (.int .i64 x) ∧ w'.cell? ⟨w2.heap.size, 1, none⟩ = some (.int .i64 y) ∧ w'.cell? ⟨w2.heap.size, 2, none⟩ = some (.slice (some ⟨g, 0, none⟩) nl (nl + 7))) ∧ (w'.cell? ⟨b, off + j * 3, none⟩ = some (.int .i64 x) ∧ w'.cell? ⟨b, off + j * 3 + 1, none⟩ = some (.int .i64 y) ∧ w'.cell? ⟨b, off + j * 3 + 2, none⟩ = some (.slice ao1 nl cap1))) (exact HS.out _ (by repeat (first | with_reducible exact Fr.refl _ _ | with_reducible refine Fr.drew ?_ | with_reducible refine Fr.trans ?_ hf7 (fun _ _ h => h)))) (first | (go_at_call 8; refine (HBK.out _ (by repeat (first | with_reducible exact Fr.refl _ _ | with_reducible refine Fr.drew ?_))).mono ?_; rintro e w7 ⟨rfl, hf7⟩))
        have HF7 : Hid (Fr (fun _ => False) w w7) := HFg.out _ ((Fr.refl _ _).drew.trans hf7 (fun _ _ h => h))
        clear hf7 c0 c1 c2 e0 e1 e2 HS HBK HFg HF6 HF2
        obtain ⟨c0, c1, c2⟩ := HCL.out w7 HF7.out
        go_wp2_with fail
        refine (HMY.out _ HF7.out).mono ?_
        rintro e w8 ⟨rfl, hf8⟩
        have HF8 : Hid (Fr (fun _ => False) w w8) := HF7.out.trans hf8 (fun _ _ h => h)
        clear hf8 HF7 c0 c1 c2
        obtain ⟨c0, c1, c2⟩ := HCL.out w8 HF8.out
        rcases HES.out with ⟨hval, hee, z1, z2, z3, z4⟩ | ⟨hval, hee, R1, R2, R3⟩
        · rw [hval]
          subst hee
          obtain rfl := z1 _ HPA.out
          obtain rfl := z2 _ HPD.out
          obtain rfl := z3 _ HPX.out
          obtain rfl := z4 _ HPY.out
          have o0 : (FloatKind.f64.format.order 0 0 != some Ordering.eq) = false := by decide
          clear z1 z2 z3 z4 hval HES HPA HPD HPX HPY HMY
          go_wp2_with fail
          go_roundg (5 - (j + 1))
          case measure => omega
          case rel => exact ⟨j + 1, by omega, congrArg (Value.int .i64) (by omega), HF8.out⟩
        · rw [hval]
          subst hee
          have HR1 : Hid (∀ w : World, Calls Tryd.prog 10 #[.int .i64 x, .int .i64 y] w fun e w' => ∃ q, e = .returned (.tuple #[.float .f64 q, .int .i64 0]) ∧ (∀ a, PA a → sameB a q = true) ∧ Fr (fun _ => False) w w') := R1
          have HR2 : Hid (∀ (w : World) (v : Value), Seen w v ll → Calls Tryd.prog 11 #[.agg #[.int .i64 x, .int .i64 y, v]] w fun e w' => ∃ q r, e = .returned (.tuple #[.float .f64 q, .float .f64 r]) ∧ (∀ a, PX a → sameB a q = true) ∧ (∀ a, PY a → sameB a r = true) ∧ Fr (fun _ => False) w w') := R2
          have HR3 : Hid (∀ (w : World) (v : Value), Seen w v ll → Calls Tryd.prog 13 #[.agg #[.int .i64 x, .int .i64 y, v]] w fun e w' => ∃ q, e = .returned (.float .f64 q) ∧ (∀ a, PD a → sameB a q = true) ∧ Fr (fun _ => False) w w') := R3
          clear R1 R2 R3 hval HES HMY
          go_wp2_with fail
          go_region_held3 (fun w' => w'.cell? ⟨b, off + j * 3, none⟩ = some (.int .i64 x) ∧ w'.cell? ⟨b, off + j * 3 + 1, none⟩ = some (.int .i64 y) ∧ w'.cell? ⟨b, off + j * 3 + 2, none⟩ = some (.slice ao1 nl cap1)) (first | exact HCL.out _ HF8.out.drew | exact HCL.out _ hf9') (first | (go_at_call 10; refine (HR1.out _).mono ?_; rintro e w9 ⟨q1, rfl, hq1, hf9⟩; (have hf9' : Fr (fun _ => False) w w9 := HF8.out.drew.trans hf9 (fun _ _ h => h))))
          have HF9 : Hid (Fr (fun _ => False) w w9) := hf9'
          have hs1 : sameB va q1 = true := hq1 _ HPA.out
          clear hf9 hf9' hq1 c0 c1 c2 HF8 HPA HR1
          obtain ⟨c0, c1, c2⟩ := HCL.out w9 HF9.out
          go_wp2_with fail
          refine (HR2.out _ _ (HSN.out _ HF9.out)).mono ?_
          rintro e w10 ⟨q2, q3, rfl, hq2, hq3, hf10⟩
          have HF10 : Hid (Fr (fun _ => False) w w10) := HF9.out.trans hf10 (fun _ _ h => h)
          have hs2 : sameB vx q2 = true := hq2 _ HPX.out
          have hs3 : sameB vy q3 = true := hq3 _ HPY.out
          clear hf10 hq2 hq3 c0 c1 c2 HF9 HPX HPY HR2
          obtain ⟨c0, c1, c2⟩ := HCL.out w10 HF10.out
          go_wp2_with fail
          refine (same_any _ _ _).mono ?_
          rintro e w11 ⟨rfl, rfl⟩
          rw [hs1]
          go_wp2_with fail
          refine (HR3.out _ _ (HSN.out _ HF10.out)).mono ?_
          rintro e w11 ⟨q4, rfl, hq4, hf11⟩
          have HF11 : Hid (Fr (fun _ => False) w w11) := HF10.out.trans hf11 (fun _ _ h => h)
          have hs4 : sameB vd q4 = true := hq4 _ HPD.out
          clear hf11 hq4 c0 c1 c2 HF10 HPD HR3
          go_wp2_with fail
          refine (same_any _ _ _).mono ?_
          rintro e w12 ⟨rfl, rfl⟩
          rw [hs4]
          go_wp2_with fail
          refine (same_any _ _ _).mono ?_
          rintro e w12 ⟨rfl, rfl⟩
          rw [hs2]
          go_wp2_with fail
          refine (same_any _ _ _).mono ?_
          rintro e w12 ⟨rfl, rfl⟩
          rw [hs3]
          go_wp2_with fail
          go_roundg (5 - (j + 1))
          case measure => omega
          case rel => exact ⟨j + 1, by omega, congrArg (Value.int .i64) (by omega), HF11.out⟩
    · skip
      have hend : (decide (j < n) = true ∧ decide (j < 5) = false ∧ j < n ∧ ¬ j < 5) ∨ (decide (j < n) = false ∧ decide (0 < 1) = true ∧ ¬ j < n ∧ 0 < 1) := by
        by_cases hj : j < n
        · exact Or.inl ⟨decide_eq_true hj, decide_eq_false (fun h => hjn ⟨hj, h⟩), hj, fun h => hjn ⟨hj, h⟩⟩
        · exact Or.inr ⟨decide_eq_false hj, rfl, hj, by omega⟩
      clear hjn
      rcases hend with ⟨d1, d2, d3, d4⟩ | ⟨d1, d2, d3, d4⟩
      all_goals
        have HW0 : Hid (Fr (fun _ => False) w wr) := HFr.out
        clear HFr
        go_wp2_with fail
        go_loopg [16, 17, 18] 4 (fun q i _ _ wr => ∃ k : Nat, k + q = 5 ∧ 1 ≤ k ∧ i = .int .i64 k ∧ Fr (fun _ => False) w wr)
        case atStart => exact ⟨1, by omega, by omega, rfl, HW0.out⟩
        case round =>
          clear HW0 d1 d2 d3 d4
          obtain ⟨k, hkq, hk1, rfl, hfr⟩ := hrel
          have HFr : Hid (Fr (fun _ => False) w wr) := hfr
          clear hfr
          by_cases hkn : k < n ∧ k < 5
          · obtain ⟨hk2, hk5⟩ := hkn
            have d1 : decide (k < n) = true := decide_eq_true hk2
            have d2 : decide (k < 5) = true := decide_eq_true hk5
            obtain ⟨m, hkm⟩ : ∃ m, k = m + 1 := ⟨k - 1, by omega⟩
            have hm : m < n := by omega
            have hsub : (k : Int) - 1 = (m : Int) := by omega
            have hwm : IntKind.i64.wrap (m : Int) = (m : Int) := by rw [IntKind.wrap_i64]; omega
            clear hkm
            obtain ⟨b, off, ao1, cap1, rfl, hok, hev, hk⟩ := HC.out k hk2
            obtain ⟨b', off', ao2, cap2, eb, hok', hev', hk'⟩ := HC.out m hm
            cases eb
            rw [hev] at hk
            rw [hev'] at hk'
            have HCL : Hid (∀ w', Fr (fun _ => False) w w' → (w'.cell? ⟨b, off + k * 3, none⟩ = some (.int .i64 (A k).x) ∧ w'.cell? ⟨b, off + k * 3 + 1, none⟩ = some (.int .i64 (A k).y) ∧ w'.cell? ⟨b, off + k * 3 + 2, none⟩ = some (.slice ao1 (A k).l.length cap1)) ∧ (w'.cell? ⟨b, off + m * 3, none⟩ = some (.int .i64 (A m).x) ∧ w'.cell? ⟨b, off + m * 3 + 1, none⟩ = some (.int .i64 (A m).y) ∧ w'.cell? ⟨b, off + m * 3 + 2, none⟩ = some (.slice ao2 (A m).l.length cap2))) := fun w' f => ⟨hk w' f, hk' w' f⟩
            have HSN : Hid (∀ w', Fr (fun _ => False) w w' → Seen w' (.slice ao1 (A k).l.length cap1) (A k).l) := fun w' f => by have := hok.hv.kept f; rwa [hev] at this
            have HSM : Hid (∀ w', Fr (fun _ => False) w w' → Seen w' (.slice ao2 (A m).l.length cap2) (A m).l) := fun w' f => by have := hok'.hv.kept f; rwa [hev'] at this
            have HMY : Hid (∀ w', Fr (fun _ => False) w w' → Calls Tryd.prog 9 #[.agg #[.int .i64 (A k).x, .int .i64 (A k).y, .slice ao1 (A k).l.length cap1]] w' fun e w'' => e = .returned (.bool (validB (A k).x (A k).y (A k).l)) ∧ Fr (fun _ => False) w' w'') := fun w' f => may_any _ _ _ _ _ hok.hx hok.hy (HSN.out _ f) hok.hlt
            have HMM : Hid (∀ w', Fr (fun _ => False) w w' → Calls Tryd.prog 9 #[.agg #[.int .i64 (A m).x, .int .i64 (A m).y, .slice ao2 (A m).l.length cap2]] w' fun e w'' => e = .returned (.bool (validB (A m).x (A m).y (A m).l)) ∧ Fr (fun _ => False) w' w'') := fun w' f => may_any _ _ _ _ _ hok'.hx hok'.hy (HSM.out _ f) hok'.hlt
            obtain ⟨er, PU, HU1, HE1⟩ := un_all (A m).x (A m).y (A k).x (A k).y (A m).l (A k).l hok'.hx hok'.hy hok.hx hok.hy hok'.hlt hok.hlt
            have HUS : Hid (∀ (w : World) (v v' : Value), Seen w v (A m).l → Seen w v' (A k).l → Calls Tryd.prog 14 #[.agg #[.int .i64 (A m).x, .int .i64 (A m).y, v], .agg #[.int .i64 (A k).x, .int .i64 (A k).y, v']] w fun e w' => ∃ a, e = .returned (.tuple #[.float .f64 a, .int .i64 er]) ∧ PU a ∧ Fr (fun _ => False) w w') := HU1
            have HES : Hid _ := HE1
            clear hk hk' hok hok' hev hev' HU1 HE1
            obtain ⟨ll, hll⟩ : ∃ ll, ll = (A k).l := ⟨_, rfl⟩
            rw [← hll] at HCL HSN HMY HUS HES
            clear hll
            obtain ⟨lm, hlm⟩ : ∃ lm, lm = (A m).l := ⟨_, rfl⟩
            rw [← hlm] at HCL HSM HMM HUS HES
            clear hlm
            generalize (A k).x = x at *
            generalize (A k).y = y at *
            generalize (A m).x = xm at *
            generalize (A m).y = ym at *
            obtain ⟨nl, hnl⟩ : ∃ nl, nl = ll.length := ⟨_, rfl⟩
            rw [← hnl] at HCL HSN HMY
            clear hnl
            obtain ⟨nm, hnm⟩ : ∃ nm, nm = lm.length := ⟨_, rfl⟩
            rw [← hnm] at HCL HSM HMM
            clear hnm
            obtain ⟨⟨c0, c1, c2⟩, ⟨e0, e1, e2⟩⟩ := HCL.out wr HFr.out
            by_cases hbig : 312 < nl
            · have d3 : decide (312 < nl) = true := decide_eq_true hbig
              go_wp2_with fail
              go_roundg (5 - (k + 1))
              case measure => omega
              case rel => exact ⟨k + 1, by omega, by omega, congrArg (Value.int .i64) (by omega), HFr.out⟩
            · have d3 : decide (312 < nl) = false := decide_eq_false hbig
              by_cases hbig2 : 312 < nm
              · have d4 : decide (312 < nm) = true := decide_eq_true hbig2
                go_wp2_with fail
                go_roundg (5 - (k + 1))
                case measure => omega
                case rel => exact ⟨k + 1, by omega, by omega, congrArg (Value.int .i64) (by omega), HFr.out⟩
              · have d4 : decide (312 < nm) = false := decide_eq_false hbig2
                go_wp2_with fail
                go_region_held3 (fun w' => (w'.cell? ⟨b, off + k * 3, none⟩ = some (.int .i64 x) ∧ w'.cell? ⟨b, off + k * 3 + 1, none⟩ = some (.int .i64 y) ∧ w'.cell? ⟨b, off + k * 3 + 2, none⟩ = some (.slice ao1 nl cap1)) ∧ (w'.cell? ⟨b, off + m * 3, none⟩ = some (.int .i64 xm) ∧ w'.cell? ⟨b, off + m * 3 + 1, none⟩ = some (.int .i64 ym) ∧ w'.cell? ⟨b, off + m * 3 + 2, none⟩ = some (.slice ao2 nm cap2))) (first | exact HCL.out _ HFr.out.drew | exact HCL.out _ hf1') (first | (go_at_call 14; refine (HUS.out _ _ _ (HSM.out _ HFr.out.drew) (HSN.out _ HFr.out.drew)).mono ?_; rintro e w1 ⟨va, rfl, hpu, hf1⟩; (have hf1' : Fr (fun _ => False) w w1 := HFr.out.drew.trans hf1 (fun _ _ h => h))))
                have HF1 : Hid (Fr (fun _ => False) w w1) := hf1'
                have HPU : Hid (PU va) := hpu
                clear hf1 hf1' hpu c0 c1 c2 e0 e1 e2 HFr HUS
                obtain ⟨⟨c0, c1, c2⟩, ⟨e0, e1, e2⟩⟩ := HCL.out w1 HF1.out
                go_wp2_with fail
                refine (HMM.out _ HF1.out).mono ?_
                rintro e w2 ⟨rfl, hf2⟩
                have HF2 : Hid (Fr (fun _ => False) w w2) := HF1.out.trans hf2 (fun _ _ h => h)
                clear hf2 c0 c1 c2 e0 e1 e2 HF1
                obtain ⟨⟨c0, c1, c2⟩, ⟨e0, e1, e2⟩⟩ := HCL.out w2 HF2.out
                rcases HES.out with ⟨hval, hee, z1⟩ | ⟨⟨hv1, hv2⟩, hee, R1⟩
                · subst hee
                  obtain rfl := z1 _ HPU.out
                  have o0 : (FloatKind.f64.format.order 0 0 != some Ordering.eq) = false := by decide
                  clear z1 HPU HES
                  cases hvm : validB xm ym lm with
                  | false =>
                    clear hval hvm
                    go_wp2_with fail
                    go_roundg (5 - (k + 1))
                    case measure => omega
                    case rel => exact ⟨k + 1, by omega, by omega, congrArg (Value.int .i64) (by omega), HF2.out⟩
                  | true =>
                    have hvk : validB x y ll = false := by
                      rcases hval with h | h
                      · rw [hvm] at h; cases h
                      · exact h
                    clear hval hvm
                    go_wp2_with fail
                    refine (HMY.out _ HF2.out).mono ?_
                    rintro e w3 ⟨rfl, hf3⟩
                    rw [hvk]
                    have HF3 : Hid (Fr (fun _ => False) w w3) := HF2.out.trans hf3 (fun _ _ h => h)
                    clear hf3
                    go_wp2_with fail
                    go_roundg (5 - (k + 1))
                    case measure => omega
                    case rel => exact ⟨k + 1, by omega, by omega, congrArg (Value.int .i64) (by omega), HF3.out⟩
                · subst hee
                  have HR1 : Hid (∀ (w : World) (v v' : Value), Seen w v lm → Seen w v' ll → Calls Tryd.prog 15 #[.agg #[.int .i64 xm, .int .i64 ym, v], .agg #[.int .i64 x, .int .i64 y, v']] w fun e w' => ∃ q, e = .returned (.float .f64 q) ∧ (∀ a, PU a → sameB a q = true) ∧ Fr (fun _ => False) w w') := R1
                  clear R1 HES
                  rw [hv1]
                  go_wp2_with fail
                  refine (HMY.out _ HF2.out).mono ?_
                  rintro e w3 ⟨rfl, hf3⟩
                  rw [hv2]
                  have HF3 : Hid (Fr (fun _ => False) w w3) := HF2.out.trans hf3 (fun _ _ h => h)
                  clear hf3 c0 c1 c2 e0 e1 e2 HF2 hv1 hv2
                  obtain ⟨⟨c0, c1, c2⟩, ⟨e0, e1, e2⟩⟩ := HCL.out w3 HF3.out
                  go_wp2_with fail
                  go_region_held3 (fun w' => (w'.cell? ⟨b, off + k * 3, none⟩ = some (.int .i64 x) ∧ w'.cell? ⟨b, off + k * 3 + 1, none⟩ = some (.int .i64 y) ∧ w'.cell? ⟨b, off + k * 3 + 2, none⟩ = some (.slice ao1 nl cap1)) ∧ (w'.cell? ⟨b, off + m * 3, none⟩ = some (.int .i64 xm) ∧ w'.cell? ⟨b, off + m * 3 + 1, none⟩ = some (.int .i64 ym) ∧ w'.cell? ⟨b, off + m * 3 + 2, none⟩ = some (.slice ao2 nm cap2))) (first | exact HCL.out _ HF3.out.drew | exact HCL.out _ hf4') (first | (go_at_call 12; refine (same_any _ _ _).mono ?_; rintro e w5 ⟨rfl, rfl⟩; rw [hq4 _ HPU.out]) | (go_at_call 15; refine (HR1.out _ _ _ (HSM.out _ HF3.out.drew) (HSN.out _ HF3.out.drew)).mono ?_; rintro e w4 ⟨q4, rfl, hq4, hf4⟩; (have hf4' : Fr (fun _ => False) w w4 := HF3.out.drew.trans hf4 (fun _ _ h => h))))
                  have HF4 : Hid (Fr (fun _ => False) w w5) := hf4'
                  clear hf4 hf4' hq4 c0 c1 c2 e0 e1 e2 HF3
                  go_wp2_with fail
                  go_roundg (5 - (k + 1))
                  case measure => omega
                  case rel => exact ⟨k + 1, by omega, by omega, congrArg (Value.int .i64) (by omega), HF4.out⟩
          · have hend : (decide (k < n) = true ∧ decide (k < 5) = false ∧ k < n ∧ ¬ k < 5) ∨ (decide (k < n) = false ∧ decide (0 < 1) = true ∧ ¬ k < n ∧ 0 < 1) := by
              by_cases hk : k < n
              · exact Or.inl ⟨decide_eq_true hk, decide_eq_false (fun h => hkn ⟨hk, h⟩), hk, fun h => hkn ⟨hk, h⟩⟩
              · exact Or.inr ⟨decide_eq_false hk, rfl, hk, by omega⟩
            clear hkn
            rcases hend with ⟨d1, d2, d3, d4⟩ | ⟨d1, d2, d3, d4⟩
            all_goals
              go_wp2_with fail
              refine (wakes_any _).mono ?_
              rintro e w9 ⟨rfl, hf9⟩
              have HF9 : Hid (Fr (fun _ => False) w w9) := HFr.out.trans hf9 (fun _ _ h => h)
              clear hf9
              go_wp2_with fail
              all_goals (go_ret; exact ⟨rfl, HF9.out⟩)
end Go.Proofs.YtnfmcdhllplgmaaDoor
