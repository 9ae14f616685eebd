/- The law 'RefineBack'. -/
import Derived.Test.YtmfpoabhmpljgaaK24
import Derived.Test.YtmfpoabhmpljgaaK25
namespace Go.Proofs.Ytmfpoabhmpljgaa
open Go.RowKit

theorem frSet3 (w : World) (o : Nat) (a b c : Value) : Fr (fun k => k = o) w (((w.setCell ⟨o, 0, none⟩ a).setCell ⟨o, 1, none⟩ b).setCell ⟨o, 2, none⟩ c) :=
  (((Fr.refl (fun k => k = o) w).setCell (p := ⟨o, 0, none⟩) (fun _ => rfl) _).setCell (p := ⟨o, 1, none⟩) (fun _ => rfl) _).setCell (p := ⟨o, 2, none⟩) (fun _ => rfl) _
theorem frSetJ {S : Nat → Prop} {w w' : World} {k j : Nat} (h : k < w.heap.size → S k) (f : Fr S w w') (u : Value) : Fr S w (w'.setCell ⟨k, j, none⟩ u) := Fr.setCell f h u

set_option maxRecDepth 100000 in
set_option maxHeartbeats 8000000 in
theorem back8_any (a : Ak) (w : World) (hk : AkOK w a) :
    Calls Try.prog 5 #[.agg #[.int .i64 a.x, .int .i64 a.y, a.v, .int .i64 a.rx, .int .i64 a.ry, a.rv, .int .i64 a.dx, .int .i64 a.dy]] w fun e w' => e = .returned (.bool true) ∧ Fr (fun _ => False) w w' := by
  obtain ⟨x, y, v, l, rx, ry, rv, rl, dx, dy⟩ := a
  obtain ⟨hb, hr, hdx, hdy⟩ := hk
  simp only [] at hb hr hdx hdy ⊢
  have HMB : Hid (∀ w', Fr (fun _ => False) w w' → Calls Try.prog 22 #[.agg #[.int .i64 x, .int .i64 y, v]] w' fun e w'' => e = .returned (.bool (validB x y l)) ∧ Fr (fun _ => False) w' w'') := fun w' hf => may_any x y v l w' hb.hx hb.hy (hb.hv.kept hf) hb.hlt
  have HMR : Hid (∀ w', Fr (fun _ => False) w w' → Calls Try.prog 22 #[.agg #[.int .i64 rx, .int .i64 ry, rv]] w' fun e w'' => e = .returned (.bool (validB rx ry rl)) ∧ Fr (fun _ => False) w' w'') := fun w' hf => may_any rx ry rv rl w' hr.hx hr.hy (hr.hv.kept hf) hr.hlt
  have HLB : Hid (∀ w', Fr (fun _ => False) w w' → Calls Try.prog 9 #[.agg #[.int .i64 x, .int .i64 y, v]] w' fun e w'' => e = .returned (.bool (lightB x y l)) ∧ Fr (fun _ => False) w' w'') := fun w' hf => light_any x y v l w' hb.hx hb.hy (hb.hv.kept hf) hb.hc hb.hlt
  have HLR : Hid (∀ w', Fr (fun _ => False) w w' → Calls Try.prog 9 #[.agg #[.int .i64 rx, .int .i64 ry, rv]] w' fun e w'' => e = .returned (.bool (lightB rx ry rl)) ∧ Fr (fun _ => False) w' w'') := fun w' hf => light_any rx ry rv rl w' hr.hx hr.hy (hr.hv.kept hf) hr.hc hr.hlt
  have HV : Hid (validB x y l = true → ∃ (W H : Nat) (P : Nat → Nat → Bool), x = W ∧ y = H ∧ l = render W H P ∧ Bm w v W H P) := fun h => valid_bm h hb.hv hb.hc hb.hlt
  have HVR : Hid (validB rx ry rl = true → ∃ (W H : Nat) (P : Nat → Nat → Bool), rx = W ∧ ry = H ∧ rl = render W H P ∧ Bm w rv W H P) := fun h => valid_bm h hr.hv hr.hc hr.hlt
  obtain ⟨ao, cap, hvv, -, -⟩ := hb.hv
  obtain ⟨ar, cr, hvr, -, -⟩ := hr.hv
  obtain ⟨n0, HN0⟩ : ∃ n0, Hid (n0 = l.length) := ⟨_, rfl⟩
  rw [← HN0.out] at hvv
  obtain ⟨n1, HN1⟩ : ∃ n1, Hid (n1 = rl.length) := ⟨_, rfl⟩
  rw [← HN1.out] at hvr
  subst hvv
  subst hvr
  have HDX : Hid ((-9223372036854775808 ≤ dx ∧ dx ≤ 9223372036854775807) ∧ (-9223372036854775808 ≤ dy ∧ dy ≤ 9223372036854775807)) := ⟨hdx, hdy⟩
  clear hb hr hdx hdy
  have HA : Hid (Fr (fun _ => False) w (w.alloc (.cells #[.int .i64 x, .int .i64 y, .slice ao n0 cap, .int .i64 rx, .int .i64 ry, .slice ar n1 cr, .int .i64 dx, .int .i64 dy] 28))) := (Fr.refl _ _).alloc _
  have HBX : Hid (∀ w', Fr (fun _ => False) (w.alloc (.cells #[.int .i64 x, .int .i64 y, .slice ao n0 cap, .int .i64 rx, .int .i64 ry, .slice ar n1 cr, .int .i64 dx, .int .i64 dy] 28)) w' → w'.heap[w.heap.size]? = some (.cells #[.int .i64 x, .int .i64 y, .slice ao n0 cap, .int .i64 rx, .int .i64 ry, .slice ar n1 cr, .int .i64 dx, .int .i64 dy] 28 (0, 0))) := fun w' hf => blkOld hf (heap_alloc_new w _)
  go_enter Try.func5, Try.ntmps5
  go_wp2_with fail
  generalize w.alloc (.cells #[.int .i64 x, .int .i64 y, .slice ao n0 cap, .int .i64 rx, .int .i64 ry, .slice ar n1 cr, .int .i64 dx, .int .i64 dy] 28) = w0 at *
  refine (HMB.out _ HA.out).mono ?_
  rintro e w1 ⟨rfl, hf1⟩
  have HF1 : Hid (Fr (fun _ => False) w0 w1) := hf1
  obtain ⟨c0, c1, c2, c3, c4, c5, c6, c7, cf⟩ := cell_of_eight (HBX.out _ hf1)
  clear hf1
  cases hvb : validB x y l
  · go_wp2_with fail
    refine (wakes8 _).mono ?_
    rintro e wz ⟨rfl, hfz⟩
    have HFz : Hid (Fr (fun _ => False) w wz) := (HA.out.trans HF1.out (fun _ _ h => h)).trans hfz (fun _ _ h => h)
    clear hfz
    go_wp2_with fail
    go_ret
    exact ⟨rfl, HFz.out⟩
  · go_wp2_with fail
    refine (HMR.out _ (HA.out.trans HF1.out (fun _ _ h => h))).mono ?_
    rintro e w2 ⟨rfl, hf2⟩
    have HF2 : Hid (Fr (fun _ => False) w0 w2) := HF1.out.trans hf2 (fun _ _ h => h)
    clear c0 c1 c2 c3 c4 c5 c6 c7 cf hf2
    obtain ⟨c0, c1, c2, c3, c4, c5, c6, c7, cf⟩ := cell_of_eight (HBX.out _ HF2.out)
    cases hvr : validB rx ry rl
    · go_wp2_with fail
      refine (wakes8 _).mono ?_
      rintro e wz ⟨rfl, hfz⟩
      have HFz : Hid (Fr (fun _ => False) w wz) := (HA.out.trans HF2.out (fun _ _ h => h)).trans hfz (fun _ _ h => h)
      clear hfz
      go_wp2_with fail
      go_ret
      exact ⟨rfl, HFz.out⟩
    · go_wp2_with fail
      refine (HLB.out _ (HA.out.trans HF2.out (fun _ _ h => h))).mono ?_
      rintro e w3 ⟨rfl, hf3⟩
      have HF3 : Hid (Fr (fun _ => False) w0 w3) := HF2.out.trans hf3 (fun _ _ h => h)
      clear c0 c1 c2 c3 c4 c5 c6 c7 cf hf3
      obtain ⟨c0, c1, c2, c3, c4, c5, c6, c7, cf⟩ := cell_of_eight (HBX.out _ HF3.out)
      cases hlb : lightB x y l
      · go_wp2_with fail
        refine (wakes8 _).mono ?_
        rintro e wz ⟨rfl, hfz⟩
        have HFz : Hid (Fr (fun _ => False) w wz) := (HA.out.trans HF3.out (fun _ _ h => h)).trans hfz (fun _ _ h => h)
        clear hfz
        go_wp2_with fail
        go_ret
        exact ⟨rfl, HFz.out⟩
      · go_wp2_with fail
        refine (HLR.out _ (HA.out.trans HF3.out (fun _ _ h => h))).mono ?_
        rintro e w4 ⟨rfl, hf4⟩
        have HF4 : Hid (Fr (fun _ => False) w0 w4) := HF3.out.trans hf4 (fun _ _ h => h)
        clear c0 c1 c2 c3 c4 c5 c6 c7 cf hf4
        obtain ⟨c0, c1, c2, c3, c4, c5, c6, c7, cf⟩ := cell_of_eight (HBX.out _ HF4.out)
        cases hlr : lightB rx ry rl
        · go_wp2_with fail
          refine (wakes8 _).mono ?_
          rintro e wz ⟨rfl, hfz⟩
          have HFz : Hid (Fr (fun _ => False) w wz) := (HA.out.trans HF4.out (fun _ _ h => h)).trans hfz (fun _ _ h => h)
          clear hfz
          go_wp2_with fail
          go_ret
          exact ⟨rfl, HFz.out⟩
        · obtain ⟨W, H, P, rfl, rfl, hl, hbm⟩ := HV.out hvb
          obtain ⟨V, U, R, rfl, rfl, hl2, hbr⟩ := HVR.out hvr
          have hsm : W * H ≤ 4000 := by
            unfold lightB at hlb
            simp only [Bool.and_eq_true, Bool.or_eq_true, decide_eq_true_eq, hvb, Bool.not_true, Bool.false_eq_true, false_or] at hlb
            have := hlb.2
            rw [← Int.natCast_mul] at this
            omega
          have hsr : V * U ≤ 4000 := by
            unfold lightB at hlr
            simp only [Bool.and_eq_true, Bool.or_eq_true, decide_eq_true_eq, hvr, Bool.not_true, Bool.false_eq_true, false_or] at hlr
            have := hlr.2
            rw [← Int.natCast_mul] at this
            omega
          have hHW : H * W ≤ 4000 := by rw [Nat.mul_comm]; exact hsm
          have hn0 : n0 = H * stride W := by rw [HN0.out, hl, length_render]
          have HEn : Hid (∀ (w' : World) (sx sy : Int), (-1048576 ≤ sx ∧ sx ≤ 1048576) → (-1048576 ≤ sy ∧ sy ≤ 1048576) → Fr (fun _ => False) w w' → Calls Try.prog 11 #[.agg #[.int .i64 W, .int .i64 H, .slice ao n0 cap], .agg #[.int .i64 V, .int .i64 U, .slice ar n1 cr], .int .i64 sx, .int .i64 sy] w' fun e w'' => ∃ g n c, e = .returned (.tuple #[.slice (some ⟨g, 1, none⟩) n c, .int .i64 0]) ∧ SeenAt w'' (.slice (some ⟨g, 1, none⟩) n c) (codedB 8192 (rowsD (cxR W (refP V U R sx sy)) 0 W P H)) ∧ Fr (fun _ => False) w' w'' ∧ w'.heap.size ≤ g) := fun w' sx sy h1 h2 f => rfencode_ok W H _ P V U _ R sx sy w' (hbm.kept f) (hbr.kept f) h1 h2
          have HDe : Hid (∀ (w' : World) (g n c : Nat) (sx sy : Int), (-1048576 ≤ sx ∧ sx ≤ 1048576) → (-1048576 ≤ sy ∧ sy ≤ 1048576) → Fr (fun _ => False) w w' → SeenAt w' (.slice (some ⟨g, 1, none⟩) n c) (codedB 8192 (rowsD (cxR W (refP V U R sx sy)) 0 W P H)) → Calls Try.prog 18 #[.slice (some ⟨g, 1, none⟩) n c, .int .i64 W, .int .i64 H, .agg #[.int .i64 V, .int .i64 U, .slice ar n1 cr], .int .i64 sx, .int .i64 sy] w' fun e w'' => ∃ g2 c2, e = .returned (.tuple #[.agg #[.int .i64 W, .int .i64 H, .slice (some ⟨g2, 0, none⟩) n0 c2], .int .i64 0]) ∧ (∀ (S : Nat → Prop) (v8 : World), Fr S w'' v8 → ¬ S g2 → Seen v8 (.slice (some ⟨g2, 0, none⟩) n0 c2) l) ∧ w'.heap.size ≤ g2 ∧ Fr (fun _ => False) w' w'') := fun w' g n c sx sy h1 h2 f hs => by
            have hll := rowsD_length (cxR W (refP V U R sx sy)) 0 W P H
            obtain ⟨_, _, f3⟩ := size_facts hbm.h1 hbm.h2 hbm.h3
            refine (rfdecode_ok _ _ W H V U _ R sx sy w' hs (Or.inr ⟨_, _, _, rfl⟩) (codedB_lt (by omega) (by omega) _ (by omega)) hbm.h1 hbm.h2 hbm.h3 (hbr.kept f) h1 h2).mono ?_
            rintro e w2 ⟨g2, cap2, rfl, hr, hg2, hf⟩
            rw [hn0]
            refine ⟨g2, cap2, rfl, fun S v8 f8 h8 => ?_, hg2, hf⟩
            have := (hr.kept f8 h8).seen f3
            rw [gback (cxR W (refP V U R sx sy)) W H H P (cxR_ahead _ _) (by omega) (Nat.le_refl _), render_congr (fun x y hx hy => cur_all W P H x y hx hy)] at this
            rw [hl]; exact this
          have HQ : Hid (∀ (w' : World) (g2 c2 : Nat), Fr (fun _ => False) w w' → Seen w' (.slice (some ⟨g2, 0, none⟩) n0 c2) l → Calls Try.prog 21 #[.agg #[.int .i64 W, .int .i64 H, .slice ao n0 cap], .agg #[.int .i64 W, .int .i64 H, .slice (some ⟨g2, 0, none⟩) n0 c2]] w' fun e w'' => e = .returned (.bool true) ∧ Fr (fun _ => False) w' w'') := fun w' g2 c2 f hs => by
            have h2 := (hbm.kept f).seen
            rw [← hl] at h2
            exact eqBitmap_same W H _ _ l w' h2 hs
          have hmx : -99 ≤ dx.tmod 100 ∧ dx.tmod 100 ≤ 99 := by
            have := Int.tmod_lt_of_pos dx (show (0 : Int) < 100 by decide)
            have := Int.lt_tmod_of_pos dx (show (0 : Int) < 100 by decide)
            omega
          have hmy : -99 ≤ dy.tmod 100 ∧ dy.tmod 100 ≤ 99 := by
            have := Int.tmod_lt_of_pos dy (show (0 : Int) < 100 by decide)
            have := Int.lt_tmod_of_pos dy (show (0 : Int) < 100 by decide)
            omega
          have gx : IntKind.i64.wrap (dx.tmod 100) = dx.tmod 100 := by rw [IntKind.wrap_i64]; omega
          have gy : IntKind.i64.wrap (dy.tmod 100) = dy.tmod 100 := by rw [IntKind.wrap_i64]; omega
          clear HMB HMR HLB HLR HV HVR hlb hlr hvb hvr hbm hbr hl hl2 hsm hsr hHW hn0
          go_wp2_with fail
          generalize dx.tmod 100 = mx at *
          generalize dy.tmod 100 = my at *
          have HF5 : Hid (Fr (fun _ => False) w0 (w4.alloc (.cells #[.int .i64 0, .int .i64 0, .int .i64 mx, .int .i64 my, .int .i64 (-1048576), .int .i64 1048576] 3))) := HF4.out.alloc _
          have HSh : Hid (∀ w', Fr (fun _ => False) (w4.alloc (.cells #[.int .i64 0, .int .i64 0, .int .i64 mx, .int .i64 my, .int .i64 (-1048576), .int .i64 1048576] 3)) w' → w'.heap[w4.heap.size]? = some (.cells #[.int .i64 0, .int .i64 0, .int .i64 mx, .int .i64 my, .int .i64 (-1048576), .int .i64 1048576] 3 (0, 0))) := fun w' f => blkOld f (heap_alloc_new w4 _)
          clear c0 c1 c2 c3 c4 c5 c6 c7 cf gx gy
          generalize w4.alloc (.cells #[.int .i64 0, .int .i64 0, .int .i64 mx, .int .i64 my, .int .i64 (-1048576), .int .i64 1048576] 3) = w5 at *
          go_loopw [6, 7, 8, 9, 10] (fun a _ _ _ _ wr => ∃ k : Nat, k ≤ 3 ∧ a = .int .i64 ((2 * k : Nat) : Int) ∧ Fr (fun _ => False) w5 wr) (fun a _ _ _ _ _ => 6 - (intOf a).toNat)
          case atStart => exact ⟨0, by omega, rfl, Fr.refl _ _⟩
          case round =>
            obtain ⟨k, hk, rfl, hfr⟩ := hrel
            have HFr : Hid (Fr (fun _ => False) w5 wr) := hfr
            clear hfr
            by_cases hk3 : k < 3
            · obtain ⟨sx, sy, hsx, hsy, hcx, hcy⟩ : ∃ sx sy : Int, (-1048576 ≤ sx ∧ sx ≤ 1048576) ∧ (-1048576 ≤ sy ∧ sy ≤ 1048576) ∧ (∀ w', Fr (fun _ => False) w5 w' → w'.cell? ⟨w4.heap.size, 2 * k, none⟩ = some (.int .i64 sx)) ∧ (∀ w', Fr (fun _ => False) w5 w' → w'.cell? ⟨w4.heap.size, 2 * k + 1, none⟩ = some (.int .i64 sy)) := by
                rcases (show k = 0 ∨ k = 1 ∨ k = 2 by omega) with rfl | rfl | rfl
                · exact ⟨0, 0, by omega, by omega, fun w' f => by simp [World.cell?, HSh.out w' f], fun w' f => by simp [World.cell?, HSh.out w' f]⟩
                · exact ⟨mx, my, by omega, by omega, fun w' f => by simp [World.cell?, HSh.out w' f], fun w' f => by simp [World.cell?, HSh.out w' f]⟩
                · exact ⟨-1048576, 1048576, by omega, by omega, fun w' f => by simp [World.cell?, HSh.out w' f], fun w' f => by simp [World.cell?, HSh.out w' f]⟩
              have HCX : Hid (∀ w', Fr (fun _ => False) w5 w' → w'.cell? ⟨w4.heap.size, 2 * k, none⟩ = some (.int .i64 sx)) := hcx
              have HCY : Hid (∀ w', Fr (fun _ => False) w5 w' → w'.cell? ⟨w4.heap.size, 2 * k + 1, none⟩ = some (.int .i64 sy)) := hcy
              have HEn1 := (show Hid _ from fun w' => HEn.out w' sx sy hsx hsy)
              have HDe1 := (show Hid _ from fun w' g n c => HDe.out w' g n c sx sy hsx hsy)
              have qx := hcx _ HFr.out
              have qy := hcy _ HFr.out
              obtain ⟨c0, c1, c2, c3, c4, c5, c6, c7, cf⟩ := cell_of_eight (HBX.out _ (HF5.out.trans HFr.out (fun _ _ h => h)))
              clear hcx hcy hsx hsy
              have g1 : IntKind.i64.wrap (((2 * k : Nat) : Int) + 1) = ((2 * k + 1 : Nat) : Int) := by rw [IntKind.wrap_i64]; omega
              have g2 : IntKind.i64.wrap (((2 * k : Nat) : Int) + 2) = ((2 * (k + 1) : Nat) : Int) := by rw [IntKind.wrap_i64]; omega
              have g3 : decide (((2 * k : Nat) : Int) < 6) = true := decide_eq_true (by omega)
              have g4 : ((2 * k : Nat) : Int).toNat = 2 * k := by omega
              have g5 : ((2 * k + 1 : Nat) : Int).toNat = 2 * k + 1 := by omega
              have g6 : (0 : Int) ≤ ((2 * k : Nat) : Int) := by omega
              have g7 : ((2 * k : Nat) : Int) < 6 := by omega
              have g8 : (0 : Int) ≤ ((2 * k + 1 : Nat) : Int) := by omega
              have g9 : ((2 * k + 1 : Nat) : Int) < 6 := by omega
              have HRe : Hid (k + 1 ≤ 3 ∧ 6 - 2 * (k + 1) < 6 - 2 * k) := by constructor <;> omega
              obtain ⟨K2, HK2⟩ : ∃ K2, Hid (K2 = 2 * (k + 1)) := ⟨_, rfl⟩
              rw [← HK2.out] at g2
              generalize 2 * k + 1 = K1 at *
              generalize hK0 : 2 * k = K0 at *
              clear hk3 hk
              have HS8 : Hid (∀ w', Fr (fun _ => False) wr w' →  w'.cell? ⟨w.heap.size, 0, none⟩ = some (.int .i64 W) ∧ w'.cell? ⟨w.heap.size, 1, none⟩ = some (.int .i64 H) ∧ w'.cell? ⟨w.heap.size, 2, none⟩ = some (.slice ao n0 cap) ∧ w'.cell? ⟨w.heap.size, 3, none⟩ = some (.int .i64 V) ∧ w'.cell? ⟨w.heap.size, 4, none⟩ = some (.int .i64 U) ∧ w'.cell? ⟨w.heap.size, 5, none⟩ = some (.slice ar n1 cr) ∧ w'.cell? ⟨w4.heap.size, K0, none⟩ = some (.int .i64 sx) ∧ w'.cell? ⟨w4.heap.size, K1, none⟩ = some (.int .i64 sy)) := fun w' f => by
                obtain ⟨c0, c1, c2, c3, c4, c5, _, _, _⟩ := cell_of_eight (HBX.out _ ((HF5.out.trans HFr.out (fun _ _ h => h)).trans f (fun _ _ h => h)))
                exact ⟨c0, c1, c2, c3, c4, c5, HCX.out _ (HFr.out.trans f (fun _ _ h => h)), HCY.out _ (HFr.out.trans f (fun _ _ h => h))⟩
              go_wp2_with fail
              clear c0 c1 c2 c3 c4 c5 c6 c7 cf qx qy
              go_region_held3 (fun w' => w'.cell? ⟨w.heap.size, 0, none⟩ = some (.int .i64 W) ∧ w'.cell? ⟨w.heap.size, 1, none⟩ = some (.int .i64 H) ∧ w'.cell? ⟨w.heap.size, 2, none⟩ = some (.slice ao n0 cap) ∧ w'.cell? ⟨w.heap.size, 3, none⟩ = some (.int .i64 V) ∧ w'.cell? ⟨w.heap.size, 4, none⟩ = some (.int .i64 U) ∧ w'.cell? ⟨w.heap.size, 5, none⟩ = some (.slice ar n1 cr) ∧ w'.cell? ⟨w4.heap.size, K0, none⟩ = some (.int .i64 sx) ∧ w'.cell? ⟨w4.heap.size, K1, none⟩ = some (.int .i64 sy)) (exact HS8.out _ (by repeat (first | with_reducible exact Fr.refl _ _ | with_reducible refine Fr.drew ?_ | with_reducible refine Fr.trans ?_ hf6 (fun _ _ hh => hh) | with_reducible refine Fr.trans ?_ hf7 (fun _ _ hh => hh)))) (first | (go_at_call 11; refine (HEn1.out _ (((HA.out.trans HF5.out (fun _ _ h => h)).trans HFr.out (fun _ _ h => h)).drew)).mono ?_; rintro e w6 ⟨g, n, c, rfl, hs6, hf6, _⟩))
              have HF6 : Hid (Fr (fun _ => False) wr w6) := (Fr.refl _ _).drew.trans hf6 (fun _ _ h => h)
              have HS6 : Hid (SeenAt w6 (.slice (some ⟨g, 1, none⟩) n c) (codedB 8192 (rowsD (cxR W (refP V U R sx sy)) 0 W P H))) := hs6
              clear hs6 hf6
              go_wp2_with fail
              go_cut [9, 10] from 66 to 87 (fun u v wc => ∃ (o g2 cc2 : Nat), u = .pointer (some ⟨o, 0, none⟩) ∧ v = .int .i64 0 ∧ wc.heap[o]? = some (.cells #[.int .i64 W, .int .i64 H, .slice (some ⟨g2, 0, none⟩) n0 cc2] 26 (0, 0)) ∧ Seen wc (.slice (some ⟨g2, 0, none⟩) n0 cc2) l ∧ Fr (fun _ => False) w6 wc)
              case first =>
                go_region_held3 (fun w' => w'.cell? ⟨w.heap.size, 0, none⟩ = some (.int .i64 W) ∧ w'.cell? ⟨w.heap.size, 1, none⟩ = some (.int .i64 H) ∧ w'.cell? ⟨w.heap.size, 2, none⟩ = some (.slice ao n0 cap) ∧ w'.cell? ⟨w.heap.size, 3, none⟩ = some (.int .i64 V) ∧ w'.cell? ⟨w.heap.size, 4, none⟩ = some (.int .i64 U) ∧ w'.cell? ⟨w.heap.size, 5, none⟩ = some (.slice ar n1 cr) ∧ w'.cell? ⟨w4.heap.size, K0, none⟩ = some (.int .i64 sx) ∧ w'.cell? ⟨w4.heap.size, K1, none⟩ = some (.int .i64 sy)) (exact HS8.out _ (HF6.out.trans (by repeat (first | (with_reducible refine frSetJ (fun hh => ?_) ?_ _; (first | omega | (simp at hh; omega) | (simp; omega))) | with_reducible refine Fr.alloc ?_ _ | with_reducible refine Fr.drew ?_ | with_reducible exact Fr.refl _ _ | with_reducible refine Fr.trans ?_ hf7 (fun _ _ hh => hh))) (fun _ _ h => h))) (first | (go_at_call 18; refine (HDe1.out _ g n c ((((HA.out.trans HF5.out (fun _ _ h => h)).trans HFr.out (fun _ _ h => h)).trans HF6.out (fun _ _ h => h)).trans (by repeat (first | (with_reducible refine frSetJ (fun hh => ?_) ?_ _; (first | omega | (simp at hh; omega) | (simp; omega))) | with_reducible refine Fr.alloc ?_ _ | with_reducible refine Fr.drew ?_ | with_reducible exact Fr.refl _ _ | with_reducible refine Fr.trans ?_ hf7 (fun _ _ hh => hh))) (fun _ _ h => h)) (HS6.out.kept (S := fun _ => False) (by repeat (first | (with_reducible refine frSetJ (fun hh => ?_) ?_ _; (first | omega | (simp at hh; omega) | (simp; omega))) | with_reducible refine Fr.alloc ?_ _ | with_reducible refine Fr.drew ?_ | with_reducible exact Fr.refl _ _ | with_reducible refine Fr.trans ?_ hf7 (fun _ _ hh => hh))) (fun _ _ h => h))).mono ?_; rintro e w7 ⟨g2, cc2, rfl, hs7, hg7, hf7⟩; (have hc7 := hf7.cells); (have hz7 := hf7.frozens); (have hsz7 := hf7.size); (have ks0 : w6.heap.size ≤ w7.heap.size := by (try simp at hsz7); omega); (try have ks1 : w6.heap.size < w7.heap.size := by (try simp at hsz7); omega)))
                all_goals go_wp2_with fail
                all_goals go_meet
                all_goals go_light
                all_goals simp at hg7
                all_goals first
                  | ((have _ := ks1); exact ⟨_, g2, cc2, rfl, rfl, set3_cells (o := w6.heap.size) (blkOld hf7 (heap_alloc_new _ _)) _ _ _, hs7 (fun k => k = w6.heap.size) _ (frSet3 _ _ _ _ _) (by omega), (by repeat (first | (with_reducible refine frSetJ (fun hh => ?_) ?_ _; (first | omega | (simp at hh; omega) | (simp; omega))) | with_reducible refine Fr.alloc ?_ _ | with_reducible refine Fr.drew ?_ | with_reducible exact Fr.refl _ _ | with_reducible refine Fr.trans ?_ hf7 (fun _ _ hh => hh)))⟩)
                  | exact ⟨_, g2, cc2, rfl, rfl, heap_alloc_new _ _, hs7 (fun _ => False) _ ((Fr.refl _ _).alloc _) (fun h => h), (by repeat (first | (with_reducible refine frSetJ (fun hh => ?_) ?_ _; (first | omega | (simp at hh; omega) | (simp; omega))) | with_reducible refine Fr.alloc ?_ _ | with_reducible refine Fr.drew ?_ | with_reducible exact Fr.refl _ _ | with_reducible refine Fr.trans ?_ hf7 (fun _ _ hh => hh)))⟩
              case rest =>
                obtain ⟨o, g2, cc2, rfl, rfl, hbo, hs7, hf7⟩ := hcut
                have HF7 : Hid (Fr (fun _ => False) wr wc) := HF6.out.trans hf7 (fun _ _ h => h)
                have HS7 : Hid (Seen wc (.slice (some ⟨g2, 0, none⟩) n0 cc2) l) := hs7
                obtain ⟨c0, c1, c2, c3, c4, c5, -, -⟩ := HS8.out _ HF7.out
                obtain ⟨y0, y1, y2, yf⟩ := cell_of_three hbo
                clear hs7 hf7 hbo
                go_wp2_with fail
                refine (HQ.out _ g2 cc2 (((HA.out.trans HF5.out (fun _ _ h => h)).trans HFr.out (fun _ _ h => h)).trans HF7.out (fun _ _ h => h)) HS7.out).mono ?_
                rintro e w8 ⟨rfl, hf8⟩
                have HF8 : Hid (Fr (fun _ => False) w5 w8) := (HFr.out.trans HF7.out (fun _ _ h => h)).trans hf8 (fun _ _ h => h)
                clear hf8 c0 c1 c2 c3 c4 c5 y0 y1 y2 yf
                go_wp2_with fail
                exact ⟨⟨k + 1, HRe.out.1, by rw [HK2.out], HF8.out⟩, by simp only [intOf]; have := HRe.out.2; rw [HK2.out, ← hK0]; omega⟩
            · obtain rfl : k = 3 := by omega
              go_wp2_with fail
              refine (wakes8 _).mono ?_
              rintro e wz ⟨rfl, hfz⟩
              have HFz : Hid (Fr (fun _ => False) w wz) := ((HA.out.trans HF5.out (fun _ _ h => h)).trans HFr.out (fun _ _ h => h)).trans hfz (fun _ _ h => h)
              clear hfz
              go_wp2_with fail
              go_ret
              exact ⟨rfl, HFz.out⟩

end Go.Proofs.Ytmfpoabhmpljgaa
