/- The law 'RefineFar'. -/
import Derived.Test.YtmfpoabhmpljgaaK24
import Derived.Test.YtmfpoabhmpljgaaK25
import Derived.Test.YtmfpoabhmpljgaaKLy
import Derived.Test.YtmfpoabhmpljgaaK14
namespace Go.Proofs.Ytmfpoabhmpljgaa
open Go.RowKit

theorem far_ref (V U : Nat) (R : Pxs) (X Y : Nat) (a b : Int) : refP (V + X) (U + Y) (laidTo X Y V U 0 R (fun _ _ => false)) 0 0 a b = refP V U R X Y a b := by
  unfold refP pixI laidTo
  rw [Int.sub_zero, Int.sub_zero]
  by_cases h1 : 0 ≤ a ∧ a < ((V + X : Nat) : Int) ∧ 0 ≤ b ∧ b < ((U + Y : Nat) : Int)
  · rw [if_pos h1]
    by_cases h2 : 0 ≤ a - (X : Int) ∧ a - (X : Int) < V ∧ 0 ≤ b - (Y : Int) ∧ b - (Y : Int) < U
    · rw [if_pos h2, if_pos (by omega), show a.toNat - X = (a - (X : Int)).toNat by omega, show b.toNat - Y = (b - (Y : Int)).toNat by omega]
    · rw [if_neg h2, if_neg (by omega)]; rfl
  · rw [if_neg h1, if_neg (by omega)]

set_option maxRecDepth 100000 in
set_option maxHeartbeats 8000000 in
theorem far8_any (a : Ak) (w : World) (hk : AkOK w a) :
    Calls Try.prog 6 #[.agg #[.int .i64 a.x, .int .i64 a.y, a.v, .int .i64 a.rx, .int .i64 a.ry, a.rv, .int .i64 a.dx, .int .i64 a.dy]] w fun e w' => e = .returned (.bool true) ∧ Fr (fun _ => False) w w' := by
  obtain ⟨x, y, v, l, rx, ry, rv, rl, dx, dy⟩ := a
  obtain ⟨hb, hr, hdx, hdy⟩ := hk
  simp only [] at hb hr hdx hdy ⊢
  have HMB : Hid (∀ w', Fr (fun _ => False) w w' → Calls Try.prog 22 #[.agg #[.int .i64 x, .int .i64 y, v]] w' fun e w'' => e = .returned (.bool (validB x y l)) ∧ Fr (fun _ => False) w' w'') := fun w' hf => may_any x y v l w' hb.hx hb.hy (hb.hv.kept hf) hb.hlt
  have HMR : Hid (∀ w', Fr (fun _ => False) w w' → Calls Try.prog 22 #[.agg #[.int .i64 rx, .int .i64 ry, rv]] w' fun e w'' => e = .returned (.bool (validB rx ry rl)) ∧ Fr (fun _ => False) w' w'') := fun w' hf => may_any rx ry rv rl w' hr.hx hr.hy (hr.hv.kept hf) hr.hlt
  have HLB : Hid (∀ w', Fr (fun _ => False) w w' → Calls Try.prog 9 #[.agg #[.int .i64 x, .int .i64 y, v]] w' fun e w'' => e = .returned (.bool (lightB x y l)) ∧ Fr (fun _ => False) w' w'') := fun w' hf => light_any x y v l w' hb.hx hb.hy (hb.hv.kept hf) hb.hc hb.hlt
  have HLR : Hid (∀ w', Fr (fun _ => False) w w' → Calls Try.prog 9 #[.agg #[.int .i64 rx, .int .i64 ry, rv]] w' fun e w'' => e = .returned (.bool (lightB rx ry rl)) ∧ Fr (fun _ => False) w' w'') := fun w' hf => light_any rx ry rv rl w' hr.hx hr.hy (hr.hv.kept hf) hr.hc hr.hlt
  have HV : Hid (validB x y l = true → ∃ (W H : Nat) (P : Nat → Nat → Bool), x = W ∧ y = H ∧ l = render W H P ∧ Bm w v W H P) := fun h => valid_bm h hb.hv hb.hc hb.hlt
  have HVR : Hid (validB rx ry rl = true → ∃ (W H : Nat) (P : Nat → Nat → Bool), rx = W ∧ ry = H ∧ rl = render W H P ∧ Bm w rv W H P) := fun h => valid_bm h hr.hv hr.hc hr.hlt
  obtain ⟨ao, cap, hvv, -, -⟩ := hb.hv
  obtain ⟨ar, cr, hvr, -, -⟩ := hr.hv
  obtain ⟨n0, HN0⟩ : ∃ n0, Hid (n0 = l.length) := ⟨_, rfl⟩
  rw [← HN0.out] at hvv
  obtain ⟨n1, HN1⟩ : ∃ n1, Hid (n1 = rl.length) := ⟨_, rfl⟩
  rw [← HN1.out] at hvr
  subst hvv
  subst hvr
  have HDX : Hid ((-9223372036854775808 ≤ dx ∧ dx ≤ 9223372036854775807) ∧ (-9223372036854775808 ≤ dy ∧ dy ≤ 9223372036854775807)) := ⟨hdx, hdy⟩
  clear hb hr hdx hdy
  have HA : Hid (Fr (fun _ => False) w (w.alloc (.cells #[.int .i64 x, .int .i64 y, .slice ao n0 cap, .int .i64 rx, .int .i64 ry, .slice ar n1 cr, .int .i64 dx, .int .i64 dy] 28))) := (Fr.refl _ _).alloc _
  have HBX : Hid (∀ w', Fr (fun _ => False) (w.alloc (.cells #[.int .i64 x, .int .i64 y, .slice ao n0 cap, .int .i64 rx, .int .i64 ry, .slice ar n1 cr, .int .i64 dx, .int .i64 dy] 28)) w' → w'.heap[w.heap.size]? = some (.cells #[.int .i64 x, .int .i64 y, .slice ao n0 cap, .int .i64 rx, .int .i64 ry, .slice ar n1 cr, .int .i64 dx, .int .i64 dy] 28 (0, 0))) := fun w' hf => blkOld hf (heap_alloc_new w _)
  go_enter Try.func6, Try.ntmps6
  go_wp2_with fail
  generalize w.alloc (.cells #[.int .i64 x, .int .i64 y, .slice ao n0 cap, .int .i64 rx, .int .i64 ry, .slice ar n1 cr, .int .i64 dx, .int .i64 dy] 28) = w0 at *
  refine (HMB.out _ HA.out).mono ?_
  rintro e w1 ⟨rfl, hf1⟩
  have HF1 : Hid (Fr (fun _ => False) w0 w1) := hf1
  obtain ⟨c0, c1, c2, c3, c4, c5, c6, c7, cf⟩ := cell_of_eight (HBX.out _ hf1)
  clear hf1
  cases hvb : validB x y l
  · go_wp2_with fail
    refine (wakes8 _).mono ?_
    rintro e wz ⟨rfl, hfz⟩
    have HFz : Hid (Fr (fun _ => False) w wz) := (HA.out.trans HF1.out (fun _ _ h => h)).trans hfz (fun _ _ h => h)
    clear hfz
    go_wp2_with fail
    go_ret
    exact ⟨rfl, HFz.out⟩
  · go_wp2_with fail
    refine (HMR.out _ (HA.out.trans HF1.out (fun _ _ h => h))).mono ?_
    rintro e w2 ⟨rfl, hf2⟩
    have HF2 : Hid (Fr (fun _ => False) w0 w2) := HF1.out.trans hf2 (fun _ _ h => h)
    clear c0 c1 c2 c3 c4 c5 c6 c7 cf hf2
    obtain ⟨c0, c1, c2, c3, c4, c5, c6, c7, cf⟩ := cell_of_eight (HBX.out _ HF2.out)
    cases hvr : validB rx ry rl
    · go_wp2_with fail
      refine (wakes8 _).mono ?_
      rintro e wz ⟨rfl, hfz⟩
      have HFz : Hid (Fr (fun _ => False) w wz) := (HA.out.trans HF2.out (fun _ _ h => h)).trans hfz (fun _ _ h => h)
      clear hfz
      go_wp2_with fail
      go_ret
      exact ⟨rfl, HFz.out⟩
    · go_wp2_with fail
      refine (HLB.out _ (HA.out.trans HF2.out (fun _ _ h => h))).mono ?_
      rintro e w3 ⟨rfl, hf3⟩
      have HF3 : Hid (Fr (fun _ => False) w0 w3) := HF2.out.trans hf3 (fun _ _ h => h)
      clear c0 c1 c2 c3 c4 c5 c6 c7 cf hf3
      obtain ⟨c0, c1, c2, c3, c4, c5, c6, c7, cf⟩ := cell_of_eight (HBX.out _ HF3.out)
      cases hlb : lightB x y l
      · go_wp2_with fail
        refine (wakes8 _).mono ?_
        rintro e wz ⟨rfl, hfz⟩
        have HFz : Hid (Fr (fun _ => False) w wz) := (HA.out.trans HF3.out (fun _ _ h => h)).trans hfz (fun _ _ h => h)
        clear hfz
        go_wp2_with fail
        go_ret
        exact ⟨rfl, HFz.out⟩
      · go_wp2_with fail
        refine (HLR.out _ (HA.out.trans HF3.out (fun _ _ h => h))).mono ?_
        rintro e w4 ⟨rfl, hf4⟩
        have HF4 : Hid (Fr (fun _ => False) w0 w4) := HF3.out.trans hf4 (fun _ _ h => h)
        clear c0 c1 c2 c3 c4 c5 c6 c7 cf hf4
        obtain ⟨c0, c1, c2, c3, c4, c5, c6, c7, cf⟩ := cell_of_eight (HBX.out _ HF4.out)
        cases hlr : lightB rx ry rl
        · go_wp2_with fail
          refine (wakes8 _).mono ?_
          rintro e wz ⟨rfl, hfz⟩
          have HFz : Hid (Fr (fun _ => False) w wz) := (HA.out.trans HF4.out (fun _ _ h => h)).trans hfz (fun _ _ h => h)
          clear hfz
          go_wp2_with fail
          go_ret
          exact ⟨rfl, HFz.out⟩
        · obtain ⟨W, H, P, rfl, rfl, hl, hbm⟩ := HV.out hvb
          obtain ⟨V, U, R, rfl, rfl, hl2, hbr⟩ := HVR.out hvr
          have hsm : W * H ≤ 4000 := by
            unfold lightB at hlb
            simp only [Bool.and_eq_true, Bool.or_eq_true, decide_eq_true_eq, hvb, Bool.not_true, Bool.false_eq_true, false_or] at hlb
            have := hlb.2
            rw [← Int.natCast_mul] at this
            omega
          have hsr : V * U ≤ 4000 := by
            unfold lightB at hlr
            simp only [Bool.and_eq_true, Bool.or_eq_true, decide_eq_true_eq, hvr, Bool.not_true, Bool.false_eq_true, false_or] at hlr
            have := hlr.2
            rw [← Int.natCast_mul] at this
            omega
          have hHW : H * W ≤ 4000 := by rw [Nat.mul_comm]; exact hsm
          have hn0 : n0 = H * stride W := by rw [HN0.out, hl, length_render]
          have HEn : Hid (∀ (w' : World) (sx sy : Int), (-1048576 ≤ sx ∧ sx ≤ 1048576) → (-1048576 ≤ sy ∧ sy ≤ 1048576) → Fr (fun _ => False) w w' → Calls Try.prog 11 #[.agg #[.int .i64 W, .int .i64 H, .slice ao n0 cap], .agg #[.int .i64 V, .int .i64 U, .slice ar n1 cr], .int .i64 sx, .int .i64 sy] w' fun e w'' => ∃ g n c, e = .returned (.tuple #[.slice (some ⟨g, 1, none⟩) n c, .int .i64 0]) ∧ SeenAt w'' (.slice (some ⟨g, 1, none⟩) n c) (codedB 8192 (rowsD (cxR W (refP V U R sx sy)) 0 W P H)) ∧ Fr (fun _ => False) w' w'' ∧ w'.heap.size ≤ g) := fun w' sx sy h1 h2 f => rfencode_ok W H _ P V U _ R sx sy w' (hbm.kept f) (hbr.kept f) h1 h2
          have hV4 : V ≤ 4000 := by
            have : V * 1 ≤ V * U := Nat.mul_le_mul_left _ hbr.h2
            omega
          have hU4 : U ≤ 4000 := by
            have : 1 * U ≤ V * U := Nat.mul_le_mul_right _ hbr.h1
            omega
          have hW4 : W ≤ 4000 := by
            have : W * 1 ≤ W * H := Nat.mul_le_mul_left _ hbm.h2
            omega
          obtain ⟨D0, HD0⟩ : ∃ D0, Hid (D0 = codedB 8192 (rowsD (cxR W (fun _ _ => 0)) 0 W P H)) := ⟨_, rfl⟩
          have HE1 : Hid (∀ (w' : World), Fr (fun _ => False) w w' → Calls Try.prog 11 #[.agg #[.int .i64 W, .int .i64 H, .slice ao n0 cap], .agg #[.int .i64 V, .int .i64 U, .slice ar n1 cr], .int .i64 1048576, .int .i64 0] w' fun e w'' => ∃ g n c, e = .returned (.tuple #[.slice (some ⟨g, 1, none⟩) n c, .int .i64 0]) ∧ SeenAt w'' (.slice (some ⟨g, 1, none⟩) n c) D0 ∧ Fr (fun _ => False) w' w'' ∧ w'.heap.size ≤ g) := fun w' f => by
            have := HEn.out w' 1048576 0 (by omega) (by omega) f
            rw [rowsD_cx _ (cxR W (fun _ _ => 0)) 0 W P H (fun x y hx _ => cxR_ref W _ _ (fun a b h1 h2 _ => by unfold refP pixI; rw [if_neg (by omega)]) P x y hx), ← HD0.out] at this
            exact this
          have HE2 : Hid (∀ (w' : World) (gw : Nat), Fr (fun _ => False) w w' → RowAt w' gw 1 1 1 (fun _ _ => false) → Calls Try.prog 11 #[.agg #[.int .i64 W, .int .i64 H, .slice ao n0 cap], .agg #[.int .i64 1, .int .i64 1, .slice (some ⟨gw, 0, none⟩) 1 1], .int .i64 0, .int .i64 0] w' fun e w'' => ∃ g n c, e = .returned (.tuple #[.slice (some ⟨g, 1, none⟩) n c, .int .i64 0]) ∧ SeenAt w'' (.slice (some ⟨g, 1, none⟩) n c) D0 ∧ Fr (fun _ => False) w' w'' ∧ w'.heap.size ≤ g) := fun w' gw f hr => by
            have := rfencode_ok W H _ P 1 1 _ (fun _ _ => false) 0 0 w' (hbm.kept f) (hr.bm (by omega) (by omega) (by omega)) (by omega) (by omega)
            rw [rowsD_cx _ (cxR W (fun _ _ => 0)) 0 W P H (fun x y hx _ => cxR_ref W _ _ (fun a b _ _ _ => by
              unfold refP pixI
              split <;> rfl) P x y hx), ← HD0.out] at this
            exact this
          have HW1 : Hid (∀ (w' : World), Calls Try.prog 23 #[.int .i64 1, .int .i64 1] w' fun e w'' => ∃ gw, e = .returned (.agg #[.int .i64 1, .int .i64 1, .slice (some ⟨gw, 0, none⟩) 1 1]) ∧ RowAt w'' gw 1 1 1 (fun _ _ => false) ∧ Fr (fun _ => False) w' w'' ∧ w'.heap.size ≤ gw) := fun w' => by
            have := zwhite_any 1 1 w' (by omega) (by omega) (by omega)
            exact this
          obtain ⟨X, HX⟩ : ∃ X : Nat, Hid ((X : Int) = dx % 9) := ⟨(dx % 9).toNat, by show _ = _; omega⟩
          obtain ⟨Y, HY⟩ : ∃ Y : Nat, Hid ((Y : Int) = dy % 9) := ⟨(dy % 9).toNat, by show _ = _; omega⟩
          have hX9 : X < 9 := by have := HX.out; omega
          have hY9 : Y < 9 := by have := HY.out; omega
          have HWX : Hid (∀ (w' : World), Calls Try.prog 24 #[.int .i64 dx, .int .i64 9] w' fun e w'' => e = .returned (.int .i64 (X : Nat)) ∧ w'' = w') := fun w' => by
            rw [HX.out]; exact within_any dx 9 w' HDX.out.1 (by omega) (by omega)
          have HWY : Hid (∀ (w' : World), Calls Try.prog 24 #[.int .i64 dy, .int .i64 9] w' fun e w'' => e = .returned (.int .i64 (Y : Nat)) ∧ w'' = w') := fun w' => by
            rw [HY.out]; exact within_any dy 9 w' HDX.out.2 (by omega) (by omega)
          have hVU : (V + X) * (U + Y) ≤ 1048576 := by
            have a1 : V * Y ≤ 4000 * 9 := Nat.mul_le_mul hV4 (by omega)
            have a2 : X * U ≤ 9 * 4000 := Nat.mul_le_mul (by omega) hU4
            have a3 : X * Y ≤ 9 * 9 := Nat.mul_le_mul (by omega) (by omega)
            rw [Nat.add_mul, Nat.mul_add, Nat.mul_add]
            omega
          obtain ⟨m0, HM0⟩ : ∃ m0, Hid (m0 = (U + Y) * stride (V + X)) := ⟨_, rfl⟩
          have HW2 : Hid (∀ (w' : World), Calls Try.prog 23 #[.int .i64 ((V + X : Nat) : Int), .int .i64 ((U + Y : Nat) : Int)] w' fun e w'' => ∃ gc, e = .returned (.agg #[.int .i64 ((V + X : Nat) : Int), .int .i64 ((U + Y : Nat) : Int), .slice (some ⟨gc, 0, none⟩) m0 m0]) ∧ RowAt w'' gc m0 (V + X) (U + Y) (fun _ _ => false) ∧ Fr (fun _ => False) w' w'' ∧ w'.heap.size ≤ gc) := fun w' => by
            rw [HM0.out]; exact zwhite_any (V + X) (U + Y) w' (by have := hbr.h1; omega) (by have := hbr.h2; omega) hVU
          have HLy : Hid (∀ (w' : World) (gc : Nat), Fr (fun _ => False) w w' → w.heap.size ≤ gc → RowAt w' gc m0 (V + X) (U + Y) (fun _ _ => false) → Calls Try.prog 25 #[.agg #[.int .i64 ((V + X : Nat) : Int), .int .i64 ((U + Y : Nat) : Int), .slice (some ⟨gc, 0, none⟩) m0 m0], .int .i64 X, .int .i64 Y, .int .i64 4, .agg #[.int .i64 V, .int .i64 U, .slice ar n1 cr]] w' fun e w'' => e = .returned (.tuple #[]) ∧ RowAt w'' gc m0 (V + X) (U + Y) (laidTo X Y V U 0 R (fun _ _ => false)) ∧ Fr (fun k => k = gc) w' w'') := fun w' gc f hg hr => by
            have := lay_any (V + X) (U + Y) gc m0 (fun _ _ => false) X Y V U _ R w' hr (fun w2 f2 => hbr.kept (f.trans f2 (fun i hi e => by omega))) (by have := hbr.h1; omega) (by have := hbr.h2; omega) hVU (by omega) (by omega)
            rwa [← HM0.out] at this
          obtain ⟨D1, HD1⟩ : ∃ D1, Hid (D1 = codedB 8192 (rowsD (cxR W (refP V U R X Y)) 0 W P H)) := ⟨_, rfl⟩
          have HE3 : Hid (∀ (w' : World), Fr (fun _ => False) w w' → Calls Try.prog 11 #[.agg #[.int .i64 W, .int .i64 H, .slice ao n0 cap], .agg #[.int .i64 V, .int .i64 U, .slice ar n1 cr], .int .i64 X, .int .i64 Y] w' fun e w'' => ∃ g n c, e = .returned (.tuple #[.slice (some ⟨g, 1, none⟩) n c, .int .i64 0]) ∧ SeenAt w'' (.slice (some ⟨g, 1, none⟩) n c) D1 ∧ Fr (fun _ => False) w' w'' ∧ w'.heap.size ≤ g) := fun w' f => by
            rw [HD1.out]; exact HEn.out w' X Y (by omega) (by omega) f
          have HE4 : Hid (∀ (w' : World) (gc : Nat), Fr (fun _ => False) w w' → RowAt w' gc m0 (V + X) (U + Y) (laidTo X Y V U 0 R (fun _ _ => false)) → Calls Try.prog 11 #[.agg #[.int .i64 W, .int .i64 H, .slice ao n0 cap], .agg #[.int .i64 ((V + X : Nat) : Int), .int .i64 ((U + Y : Nat) : Int), .slice (some ⟨gc, 0, none⟩) m0 m0], .int .i64 0, .int .i64 0] w' fun e w'' => ∃ g n c, e = .returned (.tuple #[.slice (some ⟨g, 1, none⟩) n c, .int .i64 0]) ∧ SeenAt w'' (.slice (some ⟨g, 1, none⟩) n c) D1 ∧ Fr (fun _ => False) w' w'' ∧ w'.heap.size ≤ g) := fun w' gc f hr => by
            have hb2 := hr.bm (by have := hbr.h1; omega) (by have := hbr.h2; omega) hVU
            rw [← HM0.out] at hb2
            have := rfencode_ok W H _ P (V + X) (U + Y) _ _ 0 0 w' (hbm.kept f) hb2 (by omega) (by omega)
            rw [rowsD_cx _ (cxR W (refP V U R X Y)) 0 W P H (fun x y hx _ => cxR_ref W _ _ (fun a b _ _ _ => far_ref V U R X Y a b) P x y hx), ← HD1.out] at this
            exact this
          have HEq : Hid (∀ (w' : World) (v1 v2 : Value) (L : List Nat), SeenAt w' v1 L → SeenAt w' v2 L → Calls Try.prog 14 #[v1, v2] w' fun e w'' => e = .returned (.bool true) ∧ Fr (fun _ => False) w' w'') := fun w' v1 v2 L s1 s2 => by
            refine (eq_any v1 v2 L L w' s1 s2).mono ?_
            rintro e w2 ⟨he, hf⟩
            refine ⟨?_, ?_⟩
            · rw [he]; simp
            · first | exact hf | (obtain ⟨q, rfl⟩ := hf; exact (Fr.refl _ _).drewN q)
          obtain ⟨V2, HV2⟩ : ∃ V2, Hid (V2 = V + X) := ⟨_, rfl⟩
          obtain ⟨U2, HU2⟩ : ∃ U2, Hid (U2 = U + Y) := ⟨_, rfl⟩
          rw [← HV2.out, ← HU2.out] at HW2 HLy HE4
          have hdW : decide ((W : Int) < 1048574) = true := decide_eq_true (by omega)
          clear HMB HMR HLB HLR HV HVR hlb hlr hvb hvr hl2 hsm HEn hn0
          go_wp2_with fail
          refine (HE1.out _ (HA.out.trans HF4.out (fun _ _ h => h))).mono ?_
          rintro e w5 ⟨ga, na, ca, rfl, hs5, hf5, _⟩
          have HF5 : Hid (Fr (fun _ => False) w0 w5) := HF4.out.trans hf5 (fun _ _ h => h)
          have HS5 : Hid (∀ w', Fr (fun _ => False) w5 w' → SeenAt w' (.slice (some ⟨ga, 1, none⟩) na ca) D0) := fun w' f => hs5.kept f (fun _ _ h => h)
          clear hs5 hf5 c0 c1 c2 c3 c4 c5 c6 c7 cf
          obtain ⟨c0, c1, c2, c3, c4, c5, c6, c7, cf⟩ := cell_of_eight (HBX.out _ HF5.out)
          go_wp2_with fail
          clear c0 c1 c2 c3 c4 c5 c6 c7 cf
          have HS3 : Hid (∀ w', Fr (fun _ => False) w5 w' →  w'.cell? ⟨w.heap.size, 0, none⟩ = some (.int .i64 W) ∧ w'.cell? ⟨w.heap.size, 1, none⟩ = some (.int .i64 H) ∧ w'.cell? ⟨w.heap.size, 2, none⟩ = some (.slice ao n0 cap)) := fun w' f => by
            obtain ⟨c0, c1, c2, c3, c4, c5, c6, c7, cf⟩ := cell_of_eight (HBX.out _ (HF5.out.trans f (fun _ _ h => h)))
            exact ⟨c0, c1, c2⟩
          go_region_held3 (fun w' => w'.cell? ⟨w.heap.size, 0, none⟩ = some (.int .i64 W) ∧ w'.cell? ⟨w.heap.size, 1, none⟩ = some (.int .i64 H) ∧ w'.cell? ⟨w.heap.size, 2, none⟩ = some (.slice ao n0 cap)) (exact HS3.out _ (by repeat (first | with_reducible exact Fr.refl _ _ | with_reducible refine Fr.drew ?_ | with_reducible refine Fr.trans ?_ hf7 (fun _ _ hh => hh) | with_reducible refine Fr.trans ?_ hf6 (fun _ _ hh => hh)))) (first | (go_at_call 23; refine (HW1.out _).mono ?_; rintro e w6 ⟨gw, rfl, hr6, hf6, _⟩) | (go_at_call 11; refine (HE2.out _ gw ((HA.out.trans HF5.out (fun _ _ h => h)).trans (by repeat (first | with_reducible exact Fr.refl _ _ | with_reducible refine Fr.drew ?_ | with_reducible refine Fr.trans ?_ hf7 (fun _ _ hh => hh) | with_reducible refine Fr.trans ?_ hf6 (fun _ _ hh => hh))) (fun _ _ h => h)) hr6).mono ?_; rintro e w7 ⟨gb, nb, cb, rfl, hs7, hf7, _⟩))
          have hF57 : Fr (fun _ => False) w5 w7 := (by repeat (first | with_reducible exact Fr.refl _ _ | with_reducible refine Fr.drew ?_ | with_reducible refine Fr.trans ?_ hf7 (fun _ _ hh => hh) | with_reducible refine Fr.trans ?_ hf6 (fun _ _ hh => hh)))
          have HF57 : Hid (Fr (fun _ => False) w5 w7) := hF57
          have HF7 : Hid (Fr (fun _ => False) w0 w7) := HF5.out.trans HF57.out (fun _ _ h => h)
          have HQ1 : Hid (Calls Try.prog 14 #[.slice (some ⟨ga, 1, none⟩) na ca, .slice (some ⟨gb, 1, none⟩) nb cb] w7 fun e w'' => e = .returned (.bool true) ∧ Fr (fun _ => False) w7 w'') := HEq.out w7 _ _ D0 (HS5.out _ HF57.out) hs7
          clear hr6 hf6 hs7 hf7 HF57 hF57
          obtain ⟨c0, c1, c2, c3, c4, c5, c6, c7, cf⟩ := cell_of_eight (HBX.out _ HF7.out)
          go_wp2_with fail
          refine HQ1.out.mono ?_
          rintro e w8 ⟨rfl, hf8⟩
          have HF8 : Hid (Fr (fun _ => False) w0 w8) := HF7.out.trans hf8 (fun _ _ h => h)
          clear hf8 c0 c1 c2 c3 c4 c5 c6 c7 cf
          obtain ⟨c0, c1, c2, c3, c4, c5, c6, c7, cf⟩ := cell_of_eight (HBX.out _ HF8.out)
          go_wp2_with fail
          refine (HWX.out _).mono ?_
          rintro e w8 ⟨rfl, rfl⟩
          go_wp2_with fail
          refine (HWY.out _).mono ?_
          rintro e w8 ⟨rfl, rfl⟩
          have gx : IntKind.i64.wrap ((V : Int) + (X : Int)) = (V2 : Int) := by rw [IntKind.wrap_i64]; have := HV2.out; omega
          have gy : IntKind.i64.wrap ((U : Int) + (Y : Int)) = (U2 : Int) := by rw [IntKind.wrap_i64]; have := HU2.out; omega
          go_wp2_with fail
          refine (HW2.out _).mono ?_
          rintro e w9 ⟨gc, rfl, hr9, hf9, hg9⟩
          have HF9 : Hid (Fr (fun _ => False) w0 (w9.alloc (.cells #[.int .i64 V2, .int .i64 U2, .slice (some ⟨gc, 0, none⟩) m0 m0] 26))) := (HF8.out.trans hf9 (fun _ _ h => h)).alloc _
          have HR9 : Hid (RowAt (w9.alloc (.cells #[.int .i64 V2, .int .i64 U2, .slice (some ⟨gc, 0, none⟩) m0 m0] 26)) gc m0 V2 U2 (fun _ _ => false)) := hr9.kept ((Fr.refl (fun _ => False) w9).alloc _) (fun h => h)
          have HG9 : Hid (w8.heap.size ≤ gc ∧ gc < w9.heap.size) := ⟨hg9, hr9.lt⟩
          have HB9 : Hid ((w9.alloc (.cells #[.int .i64 V2, .int .i64 U2, .slice (some ⟨gc, 0, none⟩) m0 m0] 26)).heap[w9.heap.size]? = some (.cells #[.int .i64 V2, .int .i64 U2, .slice (some ⟨gc, 0, none⟩) m0 m0] 26 (0, 0))) := heap_alloc_new w9 _
          obtain ⟨y0, y1, y2, yf⟩ := cell_of_three HB9.out
          clear hr9 hf9 hg9 c0 c1 c2 c3 c4 c5 c6 c7 cf gx gy
          obtain ⟨c0, c1, c2, c3, c4, c5, c6, c7, cf⟩ := cell_of_eight (HBX.out _ HF9.out)
          go_wp2_with fail
          generalize hwA : w9.alloc (.cells #[.int .i64 V2, .int .i64 U2, .slice (some ⟨gc, 0, none⟩) m0 m0] 26) = wA at *
          have hwA9 : w9.heap.size < wA.heap.size := lt_of_block HB9.out
          have hsz := HA.out.size
          have hsz8 := HF8.out.size
          refine (HLy.out _ gc (HA.out.trans HF9.out (fun _ _ h => h)) (by have := HG9.out; omega) HR9.out).mono ?_
          rintro e w10 ⟨rfl, hr10, hf10⟩
          have HF10 : Hid (Fr (fun _ => False) w0 w10) := HF9.out.trans hf10 (fun i hi e => by have := HG9.out; omega)
          have HR10 : Hid (RowAt w10 gc m0 V2 U2 (laidTo X Y V U 0 R (fun _ _ => false))) := hr10
          have HB10 : Hid (w10.heap[w9.heap.size]? = some (.cells #[.int .i64 V2, .int .i64 U2, .slice (some ⟨gc, 0, none⟩) m0 m0] 26 (0, 0))) := by
            show _ = _
            rw [hf10.block _ hwA9 (by have := HG9.out; omega)]; exact HB9.out
          clear hr10 hf10 y0 y1 y2 yf c0 c1 c2 c3 c4 c5 c6 c7 cf hwA
          obtain ⟨c0, c1, c2, c3, c4, c5, c6, c7, cf⟩ := cell_of_eight (HBX.out _ HF10.out)
          go_wp2_with fail
          refine (HE3.out _ (HA.out.trans HF10.out (fun _ _ h => h))).mono ?_
          rintro e w11 ⟨gd, nd, cd, rfl, hs11, hf11, _⟩
          have HF11 : Hid (Fr (fun _ => False) w10 w11) := hf11
          have HS11 : Hid (∀ w', Fr (fun _ => False) w11 w' → SeenAt w' (.slice (some ⟨gd, 1, none⟩) nd cd) D1) := fun w' f => hs11.kept f (fun _ _ h => h)
          clear hs11 hf11 c0 c1 c2 c3 c4 c5 c6 c7 cf
          obtain ⟨c0, c1, c2, c3, c4, c5, c6, c7, cf⟩ := cell_of_eight (HBX.out _ (HF10.out.trans HF11.out (fun _ _ h => h)))
          obtain ⟨y0, y1, y2, yf⟩ := cell_of_three (blkOld HF11.out HB10.out)
          go_wp2_with fail
          refine (HE4.out _ gc ((HA.out.trans HF10.out (fun _ _ h => h)).trans HF11.out (fun _ _ h => h)) (HR10.out.kept HF11.out (fun h => h))).mono ?_
          rintro e w12 ⟨ge, ne, ce, rfl, hs12, hf12, _⟩
          have HF12 : Hid (Fr (fun _ => False) w w12) := ((HA.out.trans HF10.out (fun _ _ h => h)).trans HF11.out (fun _ _ h => h)).trans hf12 (fun _ _ h => h)
          have HQ2 : Hid (Calls Try.prog 14 #[.slice (some ⟨gd, 1, none⟩) nd cd, .slice (some ⟨ge, 1, none⟩) ne ce] w12 fun e w'' => e = .returned (.bool true) ∧ Fr (fun _ => False) w12 w'') := HEq.out w12 _ _ D1 (HS11.out _ hf12) hs12
          clear hs12 hf12 c0 c1 c2 c3 c4 c5 c6 c7 cf y0 y1 y2 yf
          go_wp2_with fail
          refine HQ2.out.mono ?_
          rintro e w13 ⟨rfl, hf13⟩
          have HF13 : Hid (Fr (fun _ => False) w w13) := HF12.out.trans hf13 (fun _ _ h => h)
          clear hf13
          go_wp2_with fail
          refine (wakes8 _).mono ?_
          rintro e wz ⟨rfl, hfz⟩
          have HFz : Hid (Fr (fun _ => False) w wz) := HF13.out.trans hfz (fun _ _ h => h)
          clear hfz
          go_wp2_with fail
          go_ret
          exact ⟨rfl, HFz.out⟩

end Go.Proofs.Ytmfpoabhmpljgaa
