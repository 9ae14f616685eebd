/- The law 'RefineTop'. -/
import Derived.Test.YtmfpoabhmpljgaaK24
import Derived.Test.YtmfpoabhmpljgaaK25
import Derived.Test.YtmfpoabhmpljgaaKLc
namespace Go.Proofs.Ytmfpoabhmpljgaa
open Go.RowKit

set_option maxRecDepth 100000 in
set_option maxHeartbeats 8000000 in
theorem top8_any (a : Ak) (w : World) (hk : AkOK w a) :
    Calls Try.prog 8 #[.agg #[.int .i64 a.x, .int .i64 a.y, a.v, .int .i64 a.rx, .int .i64 a.ry, a.rv, .int .i64 a.dx, .int .i64 a.dy]] w fun e w' => e = .returned (.bool true) ∧ Fr (fun _ => False) w w' := by
  obtain ⟨x, y, v, l, rx, ry, rv, rl, dx, dy⟩ := a
  obtain ⟨hb, hr, hdx, hdy⟩ := hk
  simp only [] at hb hr hdx hdy ⊢
  have HMB : Hid (∀ w', Fr (fun _ => False) w w' → Calls Try.prog 22 #[.agg #[.int .i64 x, .int .i64 y, v]] w' fun e w'' => e = .returned (.bool (validB x y l)) ∧ Fr (fun _ => False) w' w'') := fun w' hf => may_any x y v l w' hb.hx hb.hy (hb.hv.kept hf) hb.hlt
  have HMR : Hid (∀ w', Fr (fun _ => False) w w' → Calls Try.prog 22 #[.agg #[.int .i64 rx, .int .i64 ry, rv]] w' fun e w'' => e = .returned (.bool (validB rx ry rl)) ∧ Fr (fun _ => False) w' w'') := fun w' hf => may_any rx ry rv rl w' hr.hx hr.hy (hr.hv.kept hf) hr.hlt
  have HLB : Hid (∀ w', Fr (fun _ => False) w w' → Calls Try.prog 9 #[.agg #[.int .i64 x, .int .i64 y, v]] w' fun e w'' => e = .returned (.bool (lightB x y l)) ∧ Fr (fun _ => False) w' w'') := fun w' hf => light_any x y v l w' hb.hx hb.hy (hb.hv.kept hf) hb.hc hb.hlt
  have HLR : Hid (∀ w', Fr (fun _ => False) w w' → Calls Try.prog 9 #[.agg #[.int .i64 rx, .int .i64 ry, rv]] w' fun e w'' => e = .returned (.bool (lightB rx ry rl)) ∧ Fr (fun _ => False) w' w'') := fun w' hf => light_any rx ry rv rl w' hr.hx hr.hy (hr.hv.kept hf) hr.hc hr.hlt
  have HV : Hid (validB x y l = true → ∃ (W H : Nat) (P : Nat → Nat → Bool), x = W ∧ y = H ∧ l = render W H P ∧ Bm w v W H P) := fun h => valid_bm h hb.hv hb.hc hb.hlt
  have HVR : Hid (validB rx ry rl = true → ∃ (W H : Nat) (P : Nat → Nat → Bool), rx = W ∧ ry = H ∧ rl = render W H P ∧ Bm w rv W H P) := fun h => valid_bm h hr.hv hr.hc hr.hlt
  obtain ⟨ao, cap, hvv, -, -⟩ := hb.hv
  obtain ⟨ar, cr, hvr, -, -⟩ := hr.hv
  obtain ⟨n0, HN0⟩ : ∃ n0, Hid (n0 = l.length) := ⟨_, rfl⟩
  rw [← HN0.out] at hvv
  obtain ⟨n1, HN1⟩ : ∃ n1, Hid (n1 = rl.length) := ⟨_, rfl⟩
  rw [← HN1.out] at hvr
  subst hvv
  subst hvr
  have HDX : Hid ((-9223372036854775808 ≤ dx ∧ dx ≤ 9223372036854775807) ∧ (-9223372036854775808 ≤ dy ∧ dy ≤ 9223372036854775807)) := ⟨hdx, hdy⟩
  clear hb hr hdx hdy
  have HA : Hid (Fr (fun _ => False) w (w.alloc (.cells #[.int .i64 x, .int .i64 y, .slice ao n0 cap, .int .i64 rx, .int .i64 ry, .slice ar n1 cr, .int .i64 dx, .int .i64 dy] 28))) := (Fr.refl _ _).alloc _
  have HBX : Hid (∀ w', Fr (fun _ => False) (w.alloc (.cells #[.int .i64 x, .int .i64 y, .slice ao n0 cap, .int .i64 rx, .int .i64 ry, .slice ar n1 cr, .int .i64 dx, .int .i64 dy] 28)) w' → w'.heap[w.heap.size]? = some (.cells #[.int .i64 x, .int .i64 y, .slice ao n0 cap, .int .i64 rx, .int .i64 ry, .slice ar n1 cr, .int .i64 dx, .int .i64 dy] 28 (0, 0))) := fun w' hf => blkOld hf (heap_alloc_new w _)
  go_enter Try.func8, Try.ntmps8
  go_wp2_with fail
  generalize w.alloc (.cells #[.int .i64 x, .int .i64 y, .slice ao n0 cap, .int .i64 rx, .int .i64 ry, .slice ar n1 cr, .int .i64 dx, .int .i64 dy] 28) = w0 at *
  refine (HMB.out _ HA.out).mono ?_
  rintro e w1 ⟨rfl, hf1⟩
  have HF1 : Hid (Fr (fun _ => False) w0 w1) := hf1
  obtain ⟨c0, c1, c2, c3, c4, c5, c6, c7, cf⟩ := cell_of_eight (HBX.out _ hf1)
  clear hf1
  cases hvb : validB x y l
  · go_wp2_with fail
    refine (wakes8 _).mono ?_
    rintro e wz ⟨rfl, hfz⟩
    have HFz : Hid (Fr (fun _ => False) w wz) := (HA.out.trans HF1.out (fun _ _ h => h)).trans hfz (fun _ _ h => h)
    clear hfz
    go_wp2_with fail
    go_ret
    exact ⟨rfl, HFz.out⟩
  · go_wp2_with fail
    refine (HMR.out _ (HA.out.trans HF1.out (fun _ _ h => h))).mono ?_
    rintro e w2 ⟨rfl, hf2⟩
    have HF2 : Hid (Fr (fun _ => False) w0 w2) := HF1.out.trans hf2 (fun _ _ h => h)
    clear c0 c1 c2 c3 c4 c5 c6 c7 cf hf2
    obtain ⟨c0, c1, c2, c3, c4, c5, c6, c7, cf⟩ := cell_of_eight (HBX.out _ HF2.out)
    cases hvr : validB rx ry rl
    · go_wp2_with fail
      refine (wakes8 _).mono ?_
      rintro e wz ⟨rfl, hfz⟩
      have HFz : Hid (Fr (fun _ => False) w wz) := (HA.out.trans HF2.out (fun _ _ h => h)).trans hfz (fun _ _ h => h)
      clear hfz
      go_wp2_with fail
      go_ret
      exact ⟨rfl, HFz.out⟩
    · go_wp2_with fail
      refine (HLB.out _ (HA.out.trans HF2.out (fun _ _ h => h))).mono ?_
      rintro e w3 ⟨rfl, hf3⟩
      have HF3 : Hid (Fr (fun _ => False) w0 w3) := HF2.out.trans hf3 (fun _ _ h => h)
      clear c0 c1 c2 c3 c4 c5 c6 c7 cf hf3
      obtain ⟨c0, c1, c2, c3, c4, c5, c6, c7, cf⟩ := cell_of_eight (HBX.out _ HF3.out)
      cases hlb : lightB x y l
      · go_wp2_with fail
        refine (wakes8 _).mono ?_
        rintro e wz ⟨rfl, hfz⟩
        have HFz : Hid (Fr (fun _ => False) w wz) := (HA.out.trans HF3.out (fun _ _ h => h)).trans hfz (fun _ _ h => h)
        clear hfz
        go_wp2_with fail
        go_ret
        exact ⟨rfl, HFz.out⟩
      · go_wp2_with fail
        refine (HLR.out _ (HA.out.trans HF3.out (fun _ _ h => h))).mono ?_
        rintro e w4 ⟨rfl, hf4⟩
        have HF4 : Hid (Fr (fun _ => False) w0 w4) := HF3.out.trans hf4 (fun _ _ h => h)
        clear c0 c1 c2 c3 c4 c5 c6 c7 cf hf4
        obtain ⟨c0, c1, c2, c3, c4, c5, c6, c7, cf⟩ := cell_of_eight (HBX.out _ HF4.out)
        cases hlr : lightB rx ry rl
        · go_wp2_with fail
          refine (wakes8 _).mono ?_
          rintro e wz ⟨rfl, hfz⟩
          have HFz : Hid (Fr (fun _ => False) w wz) := (HA.out.trans HF4.out (fun _ _ h => h)).trans hfz (fun _ _ h => h)
          clear hfz
          go_wp2_with fail
          go_ret
          exact ⟨rfl, HFz.out⟩
        · obtain ⟨W, H, P, rfl, rfl, hl, hbm⟩ := HV.out hvb
          obtain ⟨V, U, R, rfl, rfl, hl2, hbr⟩ := HVR.out hvr
          have hsm : W * H ≤ 4000 := by
            unfold lightB at hlb
            simp only [Bool.and_eq_true, Bool.or_eq_true, decide_eq_true_eq, hvb, Bool.not_true, Bool.false_eq_true, false_or] at hlb
            have := hlb.2
            rw [← Int.natCast_mul] at this
            omega
          have hsr : V * U ≤ 4000 := by
            unfold lightB at hlr
            simp only [Bool.and_eq_true, Bool.or_eq_true, decide_eq_true_eq, hvr, Bool.not_true, Bool.false_eq_true, false_or] at hlr
            have := hlr.2
            rw [← Int.natCast_mul] at this
            omega
          have hHW : H * W ≤ 4000 := by rw [Nat.mul_comm]; exact hsm
          have hn0 : n0 = H * stride W := by rw [HN0.out, hl, length_render]
          have HEn : Hid (∀ (w' : World) (sx sy : Int), (-1048576 ≤ sx ∧ sx ≤ 1048576) → (-1048576 ≤ sy ∧ sy ≤ 1048576) → Fr (fun _ => False) w w' → Calls Try.prog 11 #[.agg #[.int .i64 W, .int .i64 H, .slice ao n0 cap], .agg #[.int .i64 V, .int .i64 U, .slice ar n1 cr], .int .i64 sx, .int .i64 sy] w' fun e w'' => ∃ g n c, e = .returned (.tuple #[.slice (some ⟨g, 1, none⟩) n c, .int .i64 0]) ∧ SeenAt w'' (.slice (some ⟨g, 1, none⟩) n c) (codedB 8192 (rowsD (cxR W (refP V U R sx sy)) 0 W P H)) ∧ Fr (fun _ => False) w' w'' ∧ w'.heap.size ≤ g) := fun w' sx sy h1 h2 f => rfencode_ok W H _ P V U _ R sx sy w' (hbm.kept f) (hbr.kept f) h1 h2
          have hH6 : H ≤ 4000 := by
            have : 1 * H ≤ W * H := Nat.mul_le_mul_right _ hbm.h1
            omega
          have HH : Hid (1 ≤ W ∧ 1 ≤ H ∧ ∀ h, h ≤ H → W * h ≤ 1048576) := ⟨hbm.h1, hbm.h2, fun h hh => by have := Nat.mul_le_mul_left W hh; omega⟩
          obtain ⟨cx, HCX⟩ : ∃ cx, Hid (cx = cxR W (refP V U R 0 0)) := ⟨_, rfl⟩
          have HEn1 : Hid (∀ (w' : World), Fr (fun _ => False) w w' → Calls Try.prog 11 #[.agg #[.int .i64 W, .int .i64 H, .slice ao n0 cap], .agg #[.int .i64 V, .int .i64 U, .slice ar n1 cr], .int .i64 0, .int .i64 0] w' fun e w'' => ∃ g n c, e = .returned (.tuple #[.slice (some ⟨g, 1, none⟩) n c, .int .i64 0]) ∧ SeenAt w'' (.slice (some ⟨g, 1, none⟩) n c) (codedB 8192 (rowsD cx 0 W P H)) ∧ Fr (fun _ => False) w' w'' ∧ w'.heap.size ≤ g) := fun w' f => by
            rw [HCX.out]; exact HEn.out w' 0 0 (by omega) (by omega) f
          have HDe : Hid (∀ (w' : World) (g n c h : Nat), 1 ≤ h → h ≤ H → Fr (fun _ => False) w w' → SeenAt w' (.slice (some ⟨g, 1, none⟩) n c) (codedB 8192 (rowsD cx 0 W P H)) → Calls Try.prog 18 #[.slice (some ⟨g, 1, none⟩) n c, .int .i64 W, .int .i64 h, .agg #[.int .i64 V, .int .i64 U, .slice ar n1 cr], .int .i64 0, .int .i64 0] w' fun e w'' => ∃ g2 c2, e = .returned (.tuple #[.agg #[.int .i64 W, .int .i64 h, .slice (some ⟨g2, 0, none⟩) (h * stride W) c2], .int .i64 0]) ∧ Seen w'' (.slice (some ⟨g2, 0, none⟩) (h * stride W) c2) (render W h P) ∧ Fr (fun _ => False) w' w'') := fun w' g n c h h1 hh f hs => by
            have hll := rowsD_length cx 0 W P H
            have k1 := HH.out.2.2 h hh
            obtain ⟨_, _, f3⟩ := size_facts hbm.h1 h1 k1
            refine (rfdecode_ok _ _ W h V U _ R 0 0 w' hs (Or.inr ⟨_, _, _, rfl⟩) (codedB_lt (by omega) (by omega) _ (by omega)) hbm.h1 h1 k1 (hbr.kept f) (by omega) (by omega)).mono ?_
            rintro e w2 ⟨g2, cap2, rfl, hr, _, hf⟩
            refine ⟨g2, cap2, rfl, ?_, hf⟩
            have := hr.seen f3
            rw [← HCX.out, gback cx W H h P (by rw [HCX.out]; exact cxR_ahead _ _) (by omega) hh, render_congr (fun x y hx hy => cur_all W P h x y hx hy)] at this
            exact this
          have HWh : Hid (∀ (w' : World) (h : Nat), 1 ≤ h → h ≤ H → Calls Try.prog 23 #[.int .i64 W, .int .i64 h] w' fun e w'' => ∃ g, e = .returned (.agg #[.int .i64 W, .int .i64 h, .slice (some ⟨g, 0, none⟩) (h * stride W) (h * stride W)]) ∧ RowAt w'' g (h * stride W) W h (fun _ _ => false) ∧ Fr (fun _ => False) w' w'' ∧ w'.heap.size ≤ g) := fun w' h h1 hh => zwhite_any W h w' hbm.h1 h1 (HH.out.2.2 h hh)
          have HLy : Hid (∀ (w' : World) (g cg h : Nat), 1 ≤ h → h ≤ H → Fr (fun _ => False) w w' → w.heap.size ≤ g → RowAt w' g cg W h (fun _ _ => false) → Calls Try.prog 25 #[.agg #[.int .i64 W, .int .i64 h, .slice (some ⟨g, 0, none⟩) (h * stride W) cg], .int .i64 0, .int .i64 0, .int .i64 4, .agg #[.int .i64 W, .int .i64 H, .slice ao n0 cap]] w' fun e w'' => e = .returned (.tuple #[]) ∧ RowAt w'' g cg W h P ∧ Fr (fun k => k = g) w' w'') := fun w' g cg h h1 hh f hg hr => by
            refine (lay_clip W h g cg (fun _ _ => false) 0 0 W H _ P w' hr (fun w2 f2 => hbm.kept (f.trans f2 (fun i hi e => by omega))) hbm.h1 h1 (HH.out.2.2 h hh) (by omega) (by omega)).mono ?_
            rintro e w2 ⟨rfl, hr2, hf2⟩
            refine ⟨rfl, hr2.congr (fun a e ha he => ?_), hf2⟩
            unfold laidTo
            rw [if_pos (by omega)]
            rfl
          have HQ : Hid (∀ (w' : World) (h : Nat) (v1 v2 : Value), Seen w' v1 (render W h P) → Seen w' v2 (render W h P) → Calls Try.prog 21 #[.agg #[.int .i64 W, .int .i64 h, v1], .agg #[.int .i64 W, .int .i64 h, v2]] w' fun e w'' => e = .returned (.bool true) ∧ Fr (fun _ => False) w' w'') := fun w' h v1 v2 s1 s2 => eqBitmap_same W h v1 v2 _ w' s1 s2
          clear HMB HMR HLB HLR HV HVR hlb hlr hvb hvr hbm hbr hl hl2 hsm hsr hHW hn0 HEn
          go_wp2_with fail
          refine (HEn1.out _ (HA.out.trans HF4.out (fun _ _ h => h))).mono ?_
          rintro e w5 ⟨g, n, c, rfl, hs5, hf5, _⟩
          have HF5 : Hid (Fr (fun _ => False) w0 w5) := HF4.out.trans hf5 (fun _ _ h => h)
          have HS5 : Hid (∀ w', Fr (fun _ => False) w5 w' → SeenAt w' (.slice (some ⟨g, 1, none⟩) n c) (codedB 8192 (rowsD cx 0 W P H))) := fun w' f => hs5.kept f (fun _ _ h => h)
          clear hs5 hf5 c0 c1 c2 c3 c4 c5 c6 c7 cf
          go_wp2_with fail
          go_loopw [5, 6, 7, 8] (fun a _ _ _ wr => ∃ h : Nat, 1 ≤ h ∧ h ≤ 12000 ∧ a = .int .i64 h ∧ Fr (fun _ => False) w5 wr) (fun a _ _ _ _ => H + 1 - (intOf a).toNat)
          case atStart => exact ⟨1, by omega, by omega, rfl, Fr.refl _ _⟩
          case round =>
            obtain ⟨h, h1, h2, rfl, hfr⟩ := hrel
            have HFr : Hid (Fr (fun _ => False) w5 wr) := hfr
            obtain ⟨c0, c1, c2, c3, c4, c5, c6, c7, cf⟩ := cell_of_eight (HBX.out _ (HF5.out.trans hfr (fun _ _ h => h)))
            clear hfr
            by_cases hhH : h ≤ H
            · obtain ⟨m0, HM0⟩ : ∃ m0, Hid (m0 = h * stride W) := ⟨_, rfl⟩
              have HDe1 : Hid (∀ (w' : World), Fr (fun _ => False) w5 w' → Calls Try.prog 18 #[.slice (some ⟨g, 1, none⟩) n c, .int .i64 W, .int .i64 h, .agg #[.int .i64 V, .int .i64 U, .slice ar n1 cr], .int .i64 0, .int .i64 0] w' fun e w'' => ∃ g2 c2, e = .returned (.tuple #[.agg #[.int .i64 W, .int .i64 h, .slice (some ⟨g2, 0, none⟩) m0 c2], .int .i64 0]) ∧ Seen w'' (.slice (some ⟨g2, 0, none⟩) m0 c2) (render W h P) ∧ Fr (fun _ => False) w' w'') := fun w' f => by
                rw [HM0.out]; exact HDe.out w' g n c h h1 hhH ((HA.out.trans HF5.out (fun _ _ h => h)).trans f (fun _ _ h => h)) (HS5.out w' f)
              have HWh1 : Hid (∀ (w' : World), Calls Try.prog 23 #[.int .i64 W, .int .i64 h] w' fun e w'' => ∃ g, e = .returned (.agg #[.int .i64 W, .int .i64 h, .slice (some ⟨g, 0, none⟩) m0 m0]) ∧ RowAt w'' g m0 W h (fun _ _ => false) ∧ Fr (fun _ => False) w' w'' ∧ w'.heap.size ≤ g) := fun w' => by
                rw [HM0.out]; exact HWh.out w' h h1 hhH
              have HLy1 : Hid (∀ (w' : World) (g : Nat), Fr (fun _ => False) w w' → w.heap.size ≤ g → RowAt w' g m0 W h (fun _ _ => false) → Calls Try.prog 25 #[.agg #[.int .i64 W, .int .i64 h, .slice (some ⟨g, 0, none⟩) m0 m0], .int .i64 0, .int .i64 0, .int .i64 4, .agg #[.int .i64 W, .int .i64 H, .slice ao n0 cap]] w' fun e w'' => e = .returned (.tuple #[]) ∧ RowAt w'' g m0 W h P ∧ Fr (fun k => k = g) w' w'') := fun w' g f hg hr => by
                have := HLy.out w' g m0 h h1 hhH f hg hr
                rwa [← HM0.out] at this
              have HRS : Hid (∀ (w' : World) (g : Nat), RowAt w' g m0 W h P → Seen w' (.slice (some ⟨g, 0, none⟩) m0 m0) (render W h P)) := fun w' g hr => by
                have hh := HH.out
                have := hr.seen (size_facts hh.1 h1 (hh.2.2 h hhH)).2.2
                rwa [← HM0.out] at this
              have e5 : (H : Int).tdiv 5 = ((H / 5 : Nat) : Int) := by rw [Int.tdiv_eq_ediv_of_nonneg (by omega)]; omega
              obtain ⟨q5, hq5⟩ : ∃ q5, q5 = H / 5 := ⟨_, rfl⟩
              rw [← hq5] at e5
              have hq6 : q5 ≤ 1200 := by omega
              clear hq5
              go_wp2_with fail
              refine (HDe1.out _ HFr.out).mono ?_
              rintro e w6 ⟨g2, cc2, rfl, hs6, hf6⟩
              have HF6 : Hid (Fr (fun _ => False) w5 (w6.alloc (.cells #[.int .i64 W, .int .i64 h, .slice (some ⟨g2, 0, none⟩) m0 cc2] 26))) := (HFr.out.trans hf6 (fun _ _ h => h)).alloc _
              have HS6 : Hid (∀ w' (S : Nat → Prop), Fr S (w6.alloc (.cells #[.int .i64 W, .int .i64 h, .slice (some ⟨g2, 0, none⟩) m0 cc2] 26)) w' → (∀ b, b < (w6.alloc (.cells #[.int .i64 W, .int .i64 h, .slice (some ⟨g2, 0, none⟩) m0 cc2] 26)).heap.size → ¬ S b) → Seen w' (.slice (some ⟨g2, 0, none⟩) m0 cc2) (render W h P)) := fun w' S f hS => (hs6.kept ((Fr.refl (fun _ => False) w6).alloc _)).kept f hS
              have HB6 : Hid ((w6.alloc (.cells #[.int .i64 W, .int .i64 h, .slice (some ⟨g2, 0, none⟩) m0 cc2] 26)).heap[w6.heap.size]? = some (.cells #[.int .i64 W, .int .i64 h, .slice (some ⟨g2, 0, none⟩) m0 cc2] 26 (0, 0))) := heap_alloc_new w6 _
              clear hs6 hf6 c0 c1 c2 c3 c4 c5 c6 c7 cf
              obtain ⟨c0, c1, c2, c3, c4, c5, c6, c7, cf⟩ := cell_of_eight (HBX.out _ (HF5.out.trans HF6.out (fun _ _ h => h)))
              go_wp2_with fail
              generalize w6.alloc (.cells #[.int .i64 W, .int .i64 h, .slice (some ⟨g2, 0, none⟩) m0 cc2] 26) = w7 at *
              refine (HWh1.out _).mono ?_
              rintro e w8 ⟨g3, rfl, hr8, hf8, hg8⟩
              have HF78 : Hid (Fr (fun _ => False) w7 (w8.alloc (.cells #[.int .i64 W, .int .i64 h, .slice (some ⟨g3, 0, none⟩) m0 m0] 26))) := hf8.alloc _
              have HF8 : Hid (Fr (fun _ => False) w5 (w8.alloc (.cells #[.int .i64 W, .int .i64 h, .slice (some ⟨g3, 0, none⟩) m0 m0] 26))) := HF6.out.trans HF78.out (fun _ _ h => h)
              have HR8 : Hid (RowAt (w8.alloc (.cells #[.int .i64 W, .int .i64 h, .slice (some ⟨g3, 0, none⟩) m0 m0] 26)) g3 m0 W h (fun _ _ => false)) := hr8.kept ((Fr.refl (fun _ => False) w8).alloc _) (fun h => h)
              have HG8 : Hid (w7.heap.size ≤ g3 ∧ g3 < w8.heap.size) := ⟨hg8, hr8.lt⟩
              have hb8 := heap_alloc_new w8 (.cells #[.int .i64 W, .int .i64 h, .slice (some ⟨g3, 0, none⟩) m0 m0] 26)
              have HB8 : Hid ((w8.alloc (.cells #[.int .i64 W, .int .i64 h, .slice (some ⟨g3, 0, none⟩) m0 m0] 26)).heap[w8.heap.size]? = some (.cells #[.int .i64 W, .int .i64 h, .slice (some ⟨g3, 0, none⟩) m0 m0] 26 (0, 0))) := hb8
              obtain ⟨y0, y1, y2, yf⟩ := cell_of_three hb8
              clear hr8 hf8 hg8 hb8 yf c0 c1 c2 c3 c4 c5 c6 c7 cf
              obtain ⟨c0, c1, c2, c3, c4, c5, c6, c7, cf⟩ := cell_of_eight (HBX.out _ (HF5.out.trans HF8.out (fun _ _ h => h)))
              go_wp2_with fail
              generalize hw9 : w8.alloc (.cells #[.int .i64 W, .int .i64 h, .slice (some ⟨g3, 0, none⟩) m0 m0] 26) = w9 at *
              have hw8 : w8.heap.size < w9.heap.size := lt_of_block HB8.out
              refine (HLy1.out _ g3 ((HA.out.trans HF5.out (fun _ _ h => h)).trans HF8.out (fun _ _ h => h)) (by have := (HA.out.trans HF5.out (fun _ _ h => h)).size; have := HF6.out.size; have := HG8.out; omega) HR8.out).mono ?_
              rintro e w10 ⟨rfl, hr10, hf10⟩
              have HF10 : Hid (Fr (fun _ => False) w5 w10) := HF8.out.trans hf10 (fun i hi e => by have := HF6.out.size; have := HG8.out; omega)
              have HF710 : Hid (Fr (fun k => k = g3) w7 w10) := (HF78.out.mono (fun _ _ h => h.elim)).trans hf10 (fun _ _ h => h)
              obtain ⟨z0, z1, z2, zf⟩ := cell_of_three ((hf10.block w8.heap.size hw8 (by have := HG8.out; omega)).trans HB8.out)
              have hb7 := lt_of_block HB6.out
              obtain ⟨x0, x1, x2, xf⟩ := cell_of_three ((HF710.out.block w6.heap.size hb7 (by have := HG8.out; omega)).trans HB6.out)
              have HQ8 : Hid (Calls Try.prog 21 #[.agg #[.int .i64 W, .int .i64 h, .slice (some ⟨g2, 0, none⟩) m0 cc2], .agg #[.int .i64 W, .int .i64 h, .slice (some ⟨g3, 0, none⟩) m0 m0]] w10 fun e w'' => e = .returned (.bool true) ∧ Fr (fun _ => False) w10 w'') := HQ.out w10 h _ _ (HS6.out w10 _ HF710.out (fun b hb e => by have := HG8.out; omega)) (HRS.out w10 g3 hr10)
              clear hr10 hf10 y0 y1 y2 zf xf c0 c1 c2 c3 c4 c5 c6 c7 cf hw9
              obtain ⟨c0, c1, c2, c3, c4, c5, c6, c7, cf⟩ := cell_of_eight (HBX.out _ (HF5.out.trans HF10.out (fun _ _ h => h)))
              go_wp2_with fail
              refine HQ8.out.mono ?_
              rintro e w11 ⟨rfl, hf11⟩
              have HF11 : Hid (Fr (fun _ => False) w5 w11) := HF10.out.trans hf11 (fun _ _ h => h)
              clear hf11 x0 x1 x2 z0 z1 z2 c0 c1 c2 c3 c4 c5 c6 c7 cf
              obtain ⟨c0, c1, c2, c3, c4, c5, c6, c7, cf⟩ := cell_of_eight (HBX.out _ (HF5.out.trans HF11.out (fun _ _ h => h)))
              go_wp2_with fail
              exact ⟨⟨h + 1 + q5, by omega, by omega, congrArg (Value.int .i64) (by omega), HF11.out⟩, by simp only [intOf]; omega⟩
            · have hdh : decide (h ≤ H) = false := decide_eq_false hhH
              go_wp2_with fail
              refine (wakes8 _).mono ?_
              rintro e wz ⟨rfl, hfz⟩
              have HFz : Hid (Fr (fun _ => False) w wz) := ((HA.out.trans HF5.out (fun _ _ h => h)).trans HFr.out (fun _ _ h => h)).trans hfz (fun _ _ h => h)
              clear hfz
              go_wp2_with fail
              go_ret
              exact ⟨rfl, HFz.out⟩

end Go.Proofs.Ytmfpoabhmpljgaa
