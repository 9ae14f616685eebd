/- The law 'GenericTop'. -/
import Derived.Test.YtkggdnkmaldmlaaK29
import Derived.Test.YtkggdnkmaldmlaaKLc
namespace Go.Proofs.Ytkggdnkmaldmlaa
open Go.RowKit

theorem and_three (d : Int) : bits .and .i64 d 3 = d % 4 := by
  show IntKind.i64.wrap ((BitVec.ofInt 64 d &&& BitVec.ofInt 64 3).toNat : Int) = _
  rw [BitVec.toNat_and, show (BitVec.ofInt 64 3).toNat = 2 ^ 2 - 1 from by decide, Nat.and_two_pow_sub_one_eq_mod, BitVec.toNat_ofInt, IntKind.wrap_i64]
  have e : ((d % (2 ^ 64 : Nat)).toNat % 2 ^ 2 : Nat) = (d % 4).toNat := by omega
  rw [e]; omega

set_option maxRecDepth 100000 in
set_option maxHeartbeats 8000000 in
theorem top7_any (x y : Int) (v : Value) (l : List Nat) (ti : Int) (sk : Bool) (w : World) (hx : -9223372036854775808 ≤ x ∧ x ≤ 9223372036854775807) (hy : -9223372036854775808 ≤ y ∧ y ≤ 9223372036854775807) (hv : Seen w v l) (hcap : CapOK v) (hlt : ∀ j : Nat, l[j]?.getD 0 < 18446744073709551616) :
    Calls Try.prog 7 #[.agg #[.int .i64 x, .int .i64 y, v, .int .i64 ti, .bool sk]] w fun e w' => e = .returned (.bool true) ∧ Fr (fun _ => False) w w' := by
  have HMY : Hid (∀ w', Fr (fun _ => False) w w' → Calls Try.prog 22 #[.agg #[.int .i64 x, .int .i64 y, v]] w' fun e w'' => e = .returned (.bool (validB x y l)) ∧ Fr (fun _ => False) w' w'') := fun w' hf => may_any x y v l w' hx hy (hv.kept hf) hlt
  have HLI : Hid (∀ w', Fr (fun _ => False) w w' → Calls Try.prog 9 #[.agg #[.int .i64 x, .int .i64 y, v]] w' fun e w'' => e = .returned (.bool (lightB x y l)) ∧ Fr (fun _ => False) w' w'') := fun w' hf => light_any x y v l w' hx hy (hv.kept hf) hcap hlt
  have HBX : Hid (∀ w', Fr (fun _ => False) (w.alloc (.cells #[.int .i64 x, .int .i64 y, v, .int .i64 ti, .bool sk] 28)) w' → w'.cell? ⟨w.heap.size, 0, none⟩ = some (.int .i64 x) ∧ w'.cell? ⟨w.heap.size, 1, none⟩ = some (.int .i64 y) ∧ w'.cell? ⟨w.heap.size, 2, none⟩ = some v ∧ w'.cell? ⟨w.heap.size, 3, none⟩ = some (.int .i64 ti) ∧ w'.cell? ⟨w.heap.size, 4, none⟩ = some (.bool sk)) := fun w' hf => by
    obtain ⟨c0, c1, c2, c3, c4, _⟩ := cell_of_five ((hf.block w.heap.size (by simp) (fun hh => hh)).trans (heap_alloc_new w _))
    exact ⟨c0, c1, c2, c3, c4⟩
  have HV : Hid (validB x y l = true → ∃ (W H : Nat) (P : Nat → Nat → Bool), x = W ∧ y = H ∧ l = render W H P ∧ Bm w v W H P) := fun h => valid_bm h hv hcap hlt
  obtain ⟨ao, cap, hvv, _, _⟩ := hv
  obtain ⟨n0, HN0⟩ : ∃ n0, Hid (n0 = l.length) := ⟨_, rfl⟩
  rw [← HN0.out] at hvv
  subst hvv
  have HA : Hid (Fr (fun _ => False) w (w.alloc (.cells #[.int .i64 x, .int .i64 y, .slice ao n0 cap, .int .i64 ti, .bool sk] 28))) := (Fr.refl _ _).alloc _
  obtain ⟨t, Ht⟩ : ∃ t : Nat, Hid (((t : Nat) : Int) = ti % 4 ∧ t < 4) := ⟨(ti % 4).toNat, by constructor <;> omega⟩
  have hti : bits .and .i64 ti 3 = (t : Int) := by rw [and_three, Ht.out.1]
  clear hx hy hcap hlt
  go_enter Try.func7, Try.ntmps7
  go_wp2_with fail
  generalize w.alloc (.cells #[.int .i64 x, .int .i64 y, .slice ao n0 cap, .int .i64 ti, .bool sk] 28) = w0 at *
  refine (HMY.out _ HA.out).mono ?_
  rintro e w1 ⟨rfl, hf1⟩
  have HF1 : Hid (Fr (fun _ => False) w0 w1) := hf1
  obtain ⟨c0, c1, c2, c3, c4⟩ := HBX.out _ hf1
  clear hf1
  cases hvb : validB x y l
  · go_wp2_with fail
    refine (wakes7 _).mono ?_
    rintro e w2 ⟨rfl, hf2⟩
    have HF2 : Hid (Fr (fun _ => False) w w2) := (HA.out.trans HF1.out (fun _ _ h => h)).trans hf2 (fun _ _ h => h)
    clear hf2
    go_wp2_with fail
    go_ret
    exact ⟨rfl, HF2.out⟩
  · go_wp2_with fail
    refine (HLI.out _ (HA.out.trans HF1.out (fun _ _ h => h))).mono ?_
    rintro e w2 ⟨rfl, hf2⟩
    have HF2 : Hid (Fr (fun _ => False) w0 w2) := HF1.out.trans hf2 (fun _ _ h => h)
    clear hf2 c0 c1 c2 c3 c4
    cases hlb : lightB x y l
    · go_wp2_with fail
      refine (wakes7 _).mono ?_
      rintro e w3 ⟨rfl, hf3⟩
      have HF3 : Hid (Fr (fun _ => False) w w3) := (HA.out.trans HF2.out (fun _ _ h => h)).trans hf3 (fun _ _ h => h)
      clear hf3
      go_wp2_with fail
      go_ret
      exact ⟨rfl, HF3.out⟩
    · obtain ⟨W, H, P, rfl, rfl, hl, hbm⟩ := HV.out hvb
      have hsm : W * H ≤ 6000 := by
        unfold lightB at hlb
        simp only [Bool.and_eq_true, Bool.or_eq_true, decide_eq_true_eq, hvb, Bool.not_true, Bool.false_eq_true, false_or] at hlb
        have := hlb.2
        rw [← Int.natCast_mul] at this
        omega
      have hHW : H * (W + 1) ≤ 12000 := by
        have : H * 1 ≤ H * W := Nat.mul_le_mul_left _ hbm.h1
        rw [Nat.mul_add]
        rw [Nat.mul_comm] at hsm
        omega
      have hH6 : H ≤ 6000 := by
        have : 1 * H ≤ W * H := Nat.mul_le_mul_right _ hbm.h1
        omega
      have hW6 : W ≤ 6000 := by
        have : W * 1 ≤ W * H := Nat.mul_le_mul_left _ hbm.h2
        omega
      have HH : Hid (1 ≤ W ∧ 1 ≤ H ∧ ∀ h, h ≤ H → W * h ≤ 1048576 ∧ h * (W + 1) ≤ 12000) := ⟨hbm.h1, hbm.h2, fun h hh => ⟨by have := Nat.mul_le_mul_left W hh; omega, by have := Nat.mul_le_mul_right (W + 1) hh; omega⟩⟩
      have HEn : Hid (∀ (w' : World), Fr (fun _ => False) w w' → Calls Try.prog 11 #[.agg #[.int .i64 W, .int .i64 H, .slice ao n0 cap], .int .i64 t, .bool sk] w' fun e w'' => ∃ g n c, e = .returned (.tuple #[.slice (some ⟨g, 1, none⟩) n c, .int .i64 0]) ∧ SeenAt w'' (.slice (some ⟨g, 1, none⟩) n c) (codedB (sizeT t + 1) (rowsD 0 t W sk P H)) ∧ Fr (fun _ => False) w' w'' ∧ w'.heap.size ≤ g) := fun w' f => gencode_ok W H _ P t sk w' (hbm.kept f) Ht.out.2 (by omega)
      have HDe : Hid (∀ (w' : World) (g n c h : Nat), 1 ≤ h → h ≤ H → SeenAt w' (.slice (some ⟨g, 1, none⟩) n c) (codedB (sizeT t + 1) (rowsD 0 t W sk P H)) → Calls Try.prog 18 #[.slice (some ⟨g, 1, none⟩) n c, .int .i64 W, .int .i64 h, .int .i64 t, .bool sk] w' fun e w'' => ∃ g2 c2, e = .returned (.tuple #[.agg #[.int .i64 W, .int .i64 h, .slice (some ⟨g2, 0, none⟩) (h * stride W) c2], .int .i64 0]) ∧ Seen w'' (.slice (some ⟨g2, 0, none⟩) (h * stride W) c2) (render W h P) ∧ Fr (fun _ => False) w' w'') := fun w' g n c h h1 hh hs => by
        have hll := rowsD_length 0 t W sk P H
        have hZ := sizeT_le t Ht.out.2
        obtain ⟨k1, k2⟩ := HH.out.2.2 h hh
        obtain ⟨_, _, f3⟩ := size_facts hbm.h1 h1 k1
        refine (gdecode_ok _ _ W h t sk w' hs (Or.inr ⟨_, _, _, rfl⟩) (codedB_lt (by omega) (by omega) _ (by omega)) hbm.h1 h1 k1 Ht.out.2 (by omega)).mono ?_
        rintro e w2 ⟨g2, cap2, rfl, hr, _, hf⟩
        refine ⟨g2, cap2, rfl, ?_, hf⟩
        have := hr.seen f3
        rw [gback W H h t sk P Ht.out.2 (by omega) hh, render_congr (fun x y hx hy => cur_all W P h x y hx hy)] at this
        exact this
      have HWh : Hid (∀ (w' : World) (h : Nat), 1 ≤ h → h ≤ H → Calls Try.prog 35 #[.int .i64 W, .int .i64 h] w' fun e w'' => ∃ g, e = .returned (.agg #[.int .i64 W, .int .i64 h, .slice (some ⟨g, 0, none⟩) (h * stride W) (h * stride W)]) ∧ RowAt w'' g (h * stride W) W h (fun _ _ => false) ∧ Fr (fun _ => False) w' w'' ∧ w'.heap.size ≤ g) := fun w' h h1 hh => zwhite_any W h w' hbm.h1 h1 (HH.out.2.2 h hh).1
      have HLy : Hid (∀ (w' : World) (g cg h : Nat), 1 ≤ h → h ≤ H → Fr (fun _ => False) w w' → w.heap.size ≤ g → RowAt w' g cg W h (fun _ _ => false) → Calls Try.prog 36 #[.agg #[.int .i64 W, .int .i64 h, .slice (some ⟨g, 0, none⟩) (h * stride W) cg], .int .i64 0, .int .i64 0, .int .i64 4, .agg #[.int .i64 W, .int .i64 H, .slice ao n0 cap]] w' fun e w'' => e = .returned (.tuple #[]) ∧ RowAt w'' g cg W h P ∧ Fr (fun k => k = g) w' w'') := fun w' g cg h h1 hh f hg hr => by
        refine (lay_clip W h g cg (fun _ _ => false) 0 0 W H _ P w' hr (fun w2 f2 => hbm.kept (f.trans f2 (fun i hi e => by omega))) hbm.h1 h1 (HH.out.2.2 h hh).1 (by omega) (by omega)).mono ?_
        rintro e w2 ⟨rfl, hr2, hf2⟩
        refine ⟨rfl, hr2.congr (fun a e ha he => ?_), hf2⟩
        unfold laidTo
        rw [if_pos (by omega)]
        rfl
      have HQ : Hid (∀ (w' : World) (h : Nat) (v1 v2 : Value), Seen w' v1 (render W h P) → Seen w' v2 (render W h P) → Calls Try.prog 21 #[.agg #[.int .i64 W, .int .i64 h, v1], .agg #[.int .i64 W, .int .i64 h, v2]] w' fun e w'' => e = .returned (.bool true) ∧ Fr (fun _ => False) w' w'') := fun w' h v1 v2 s1 s2 => eqBitmap_same W h v1 v2 _ w' s1 s2
      clear HMY HLI HV hlb hvb hbm hl hsm hHW
      obtain ⟨c0, c1, c2, c3, c4⟩ := HBX.out _ HF2.out
      go_wp2_with fail
      refine (HEn.out _ (HA.out.trans HF2.out (fun _ _ h => h))).mono ?_
      rintro e w3 ⟨g, n, c, rfl, hs3, hf3, _⟩
      have HF3 : Hid (Fr (fun _ => False) w0 w3) := HF2.out.trans hf3 (fun _ _ h => h)
      have HS3 : Hid (∀ w', Fr (fun _ => False) w3 w' → SeenAt w' (.slice (some ⟨g, 1, none⟩) n c) (codedB (sizeT t + 1) (rowsD 0 t W sk P H))) := fun w' f => hs3.kept f (fun _ _ h => h)
      clear hs3 hf3 c0 c1 c2 c3 c4
      go_wp2_with fail
      go_loopw [6, 7, 8, 9] (fun a _ _ _ wr => ∃ h : Nat, 1 ≤ h ∧ h ≤ 12000 ∧ a = .int .i64 h ∧ Fr (fun _ => False) w3 wr) (fun a _ _ _ _ => H + 1 - (intOf a).toNat)
      case atStart => exact ⟨1, by omega, by omega, rfl, Fr.refl _ _⟩
      case round =>
        obtain ⟨h, h1, h2, rfl, hfr⟩ := hrel
        have HFr : Hid (Fr (fun _ => False) w3 wr) := hfr
        obtain ⟨c0, c1, c2, c3, c4⟩ := HBX.out _ (HF3.out.trans hfr (fun _ _ h => h))
        clear hfr
        by_cases hhH : h ≤ H
        · obtain ⟨m0, HM0⟩ : ∃ m0, Hid (m0 = h * stride W) := ⟨_, rfl⟩
          have HDe1 : Hid (∀ (w' : World), Fr (fun _ => False) w3 w' → Calls Try.prog 18 #[.slice (some ⟨g, 1, none⟩) n c, .int .i64 W, .int .i64 h, .int .i64 t, .bool sk] w' fun e w'' => ∃ g2 c2, e = .returned (.tuple #[.agg #[.int .i64 W, .int .i64 h, .slice (some ⟨g2, 0, none⟩) m0 c2], .int .i64 0]) ∧ Seen w'' (.slice (some ⟨g2, 0, none⟩) m0 c2) (render W h P) ∧ Fr (fun _ => False) w' w'') := fun w' f => by
            rw [HM0.out]; exact HDe.out w' g n c h h1 hhH (HS3.out w' f)
          have HWh1 : Hid (∀ (w' : World), Calls Try.prog 35 #[.int .i64 W, .int .i64 h] w' fun e w'' => ∃ g, e = .returned (.agg #[.int .i64 W, .int .i64 h, .slice (some ⟨g, 0, none⟩) m0 m0]) ∧ RowAt w'' g m0 W h (fun _ _ => false) ∧ Fr (fun _ => False) w' w'' ∧ w'.heap.size ≤ g) := fun w' => by
            rw [HM0.out]; exact HWh.out w' h h1 hhH
          have HLy1 : Hid (∀ (w' : World) (g : Nat), Fr (fun _ => False) w w' → w.heap.size ≤ g → RowAt w' g m0 W h (fun _ _ => false) → Calls Try.prog 36 #[.agg #[.int .i64 W, .int .i64 h, .slice (some ⟨g, 0, none⟩) m0 m0], .int .i64 0, .int .i64 0, .int .i64 4, .agg #[.int .i64 W, .int .i64 H, .slice ao n0 cap]] w' fun e w'' => e = .returned (.tuple #[]) ∧ RowAt w'' g m0 W h P ∧ Fr (fun k => k = g) w' w'') := fun w' g f hg hr => by
            have := HLy.out w' g m0 h h1 hhH f hg hr
            rwa [← HM0.out] at this
          have HRS : Hid (∀ (w' : World) (g : Nat), RowAt w' g m0 W h P → Seen w' (.slice (some ⟨g, 0, none⟩) m0 m0) (render W h P)) := fun w' g hr => by
            have hh := HH.out
            have := hr.seen (size_facts hh.1 h1 (hh.2.2 h hhH).1).2.2
            rwa [← HM0.out] at this
          have e5 : (H : Int).tdiv 5 = ((H / 5 : Nat) : Int) := by rw [Int.tdiv_eq_ediv_of_nonneg (by omega)]; omega
          obtain ⟨q5, hq5⟩ : ∃ q5, q5 = H / 5 := ⟨_, rfl⟩
          rw [← hq5] at e5
          have hq6 : q5 ≤ 1200 := by omega
          clear hq5
          go_wp2_with fail
          refine (HDe1.out _ HFr.out).mono ?_
          rintro e w4 ⟨g2, cc2, rfl, hs4, hf4⟩
          have HF4 : Hid (Fr (fun _ => False) w3 (w4.alloc (.cells #[.int .i64 W, .int .i64 h, .slice (some ⟨g2, 0, none⟩) m0 cc2] 26))) := (HFr.out.trans hf4 (fun _ _ h => h)).alloc _
          have HS4 : Hid (∀ w' (S : Nat → Prop), Fr S (w4.alloc (.cells #[.int .i64 W, .int .i64 h, .slice (some ⟨g2, 0, none⟩) m0 cc2] 26)) w' → (∀ b, b < (w4.alloc (.cells #[.int .i64 W, .int .i64 h, .slice (some ⟨g2, 0, none⟩) m0 cc2] 26)).heap.size → ¬ S b) → Seen w' (.slice (some ⟨g2, 0, none⟩) m0 cc2) (render W h P)) := fun w' S f hS => (hs4.kept ((Fr.refl (fun _ => False) w4).alloc _)).kept f hS
          have HB4 : Hid ((w4.alloc (.cells #[.int .i64 W, .int .i64 h, .slice (some ⟨g2, 0, none⟩) m0 cc2] 26)).heap[w4.heap.size]? = some (.cells #[.int .i64 W, .int .i64 h, .slice (some ⟨g2, 0, none⟩) m0 cc2] 26 (0, 0))) := heap_alloc_new w4 _
          clear hs4 hf4 c0 c1 c2 c3 c4
          obtain ⟨c0, c1, c2, c3, c4⟩ := HBX.out _ (HF3.out.trans HF4.out (fun _ _ h => h))
          go_wp2_with fail
          generalize w4.alloc (.cells #[.int .i64 W, .int .i64 h, .slice (some ⟨g2, 0, none⟩) m0 cc2] 26) = w5 at *
          refine (HWh1.out _).mono ?_
          rintro e w6 ⟨g3, rfl, hr6, hf6, hg6⟩
          have HF56 : Hid (Fr (fun _ => False) w5 (w6.alloc (.cells #[.int .i64 W, .int .i64 h, .slice (some ⟨g3, 0, none⟩) m0 m0] 26))) := hf6.alloc _
          have HF6 : Hid (Fr (fun _ => False) w3 (w6.alloc (.cells #[.int .i64 W, .int .i64 h, .slice (some ⟨g3, 0, none⟩) m0 m0] 26))) := HF4.out.trans HF56.out (fun _ _ h => h)
          have HR6 : Hid (RowAt (w6.alloc (.cells #[.int .i64 W, .int .i64 h, .slice (some ⟨g3, 0, none⟩) m0 m0] 26)) g3 m0 W h (fun _ _ => false)) := hr6.kept ((Fr.refl (fun _ => False) w6).alloc _) (fun h => h)
          have HG6 : Hid (w5.heap.size ≤ g3 ∧ g3 < w6.heap.size) := ⟨hg6, hr6.lt⟩
          have hb6 := heap_alloc_new w6 (.cells #[.int .i64 W, .int .i64 h, .slice (some ⟨g3, 0, none⟩) m0 m0] 26)
          have HB6 : Hid ((w6.alloc (.cells #[.int .i64 W, .int .i64 h, .slice (some ⟨g3, 0, none⟩) m0 m0] 26)).heap[w6.heap.size]? = some (.cells #[.int .i64 W, .int .i64 h, .slice (some ⟨g3, 0, none⟩) m0 m0] 26 (0, 0))) := hb6
          obtain ⟨y0, y1, y2, yf⟩ := cell_of_three hb6
          clear hr6 hf6 hg6 hb6 yf c0 c1 c2 c3 c4
          obtain ⟨c0, c1, c2, c3, c4⟩ := HBX.out _ (HF3.out.trans HF6.out (fun _ _ h => h))
          go_wp2_with fail
          generalize hw7 : w6.alloc (.cells #[.int .i64 W, .int .i64 h, .slice (some ⟨g3, 0, none⟩) m0 m0] 26) = w7 at *
          have hw6 : w6.heap.size < w7.heap.size := lt_of_block HB6.out
          refine (HLy1.out _ g3 ((HA.out.trans HF3.out (fun _ _ h => h)).trans HF6.out (fun _ _ h => h)) (by have := (HA.out.trans HF3.out (fun _ _ h => h)).size; have := HF4.out.size; have := HG6.out; omega) HR6.out).mono ?_
          rintro e w8 ⟨rfl, hr8, hf8⟩
          have HF8 : Hid (Fr (fun _ => False) w3 w8) := HF6.out.trans hf8 (fun i hi e => by have := HF4.out.size; have := HG6.out; omega)
          have HF58 : Hid (Fr (fun k => k = g3) w5 w8) := (HF56.out.mono (fun _ _ h => h.elim)).trans hf8 (fun _ _ h => h)
          obtain ⟨z0, z1, z2, zf⟩ := cell_of_three ((hf8.block w6.heap.size hw6 (by have := HG6.out; omega)).trans HB6.out)
          have hb5 := lt_of_block HB4.out
          obtain ⟨x0, x1, x2, xf⟩ := cell_of_three ((HF58.out.block w4.heap.size hb5 (by have := HG6.out; omega)).trans HB4.out)
          have HQ8 : Hid (Calls Try.prog 21 #[.agg #[.int .i64 W, .int .i64 h, .slice (some ⟨g2, 0, none⟩) m0 cc2], .agg #[.int .i64 W, .int .i64 h, .slice (some ⟨g3, 0, none⟩) m0 m0]] w8 fun e w'' => e = .returned (.bool true) ∧ Fr (fun _ => False) w8 w'') := HQ.out w8 h _ _ (HS4.out w8 _ HF58.out (fun b hb e => by have := HG6.out; omega)) (HRS.out w8 g3 hr8)
          clear hr8 hf8 y0 y1 y2 zf xf c0 c1 c2 c3 c4 hw7
          obtain ⟨c0, c1, c2, c3, c4⟩ := HBX.out _ (HF3.out.trans HF8.out (fun _ _ h => h))
          go_wp2_with fail
          refine HQ8.out.mono ?_
          rintro e w9 ⟨rfl, hf9⟩
          have HF9 : Hid (Fr (fun _ => False) w3 w9) := HF8.out.trans hf9 (fun _ _ h => h)
          clear hf9 x0 x1 x2 z0 z1 z2 c0 c1 c2 c3 c4
          obtain ⟨c0, c1, c2, c3, c4⟩ := HBX.out _ (HF3.out.trans HF9.out (fun _ _ h => h))
          go_wp2_with fail
          exact ⟨⟨h + 1 + q5, by omega, by omega, congrArg (Value.int .i64) (by omega), HF9.out⟩, by simp only [intOf]; omega⟩
        · have hdh : decide (h ≤ H) = false := decide_eq_false hhH
          go_wp2_with fail
          refine (wakes7 _).mono ?_
          rintro e w9 ⟨rfl, hf9⟩
          have HF9 : Hid (Fr (fun _ => False) w w9) := ((HA.out.trans HF3.out (fun _ _ h => h)).trans HFr.out (fun _ _ h => h)).trans hf9 (fun _ _ h => h)
          clear hf9
          go_wp2_with fail
          go_ret
          exact ⟨rfl, HF9.out⟩

end Go.Proofs.Ytkggdnkmaldmlaa
