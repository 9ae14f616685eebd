/- The law 'GenericBack'. -/
import Derived.Test.YtkggdnkmaldmlaaK29
namespace Go.Proofs.Ytkggdnkmaldmlaa
open Go.RowKit

set_option maxRecDepth 100000 in
set_option maxHeartbeats 8000000 in
theorem back7_any (x y : Int) (v : Value) (l : List Nat) (w : World) (hx : -9223372036854775808 ≤ x ∧ x ≤ 9223372036854775807) (hy : -9223372036854775808 ≤ y ∧ y ≤ 9223372036854775807) (hv : Seen w v l) (hcap : CapOK v) (hlt : ∀ j : Nat, l[j]?.getD 0 < 18446744073709551616) :
    Calls Try.prog 5 #[.agg #[.int .i64 x, .int .i64 y, v]] w fun e w' => e = .returned (.bool true) ∧ Fr (fun _ => False) w w' := by
  have HMY : Hid (∀ w', Fr (fun _ => False) w w' → Calls Try.prog 22 #[.agg #[.int .i64 x, .int .i64 y, v]] w' fun e w'' => e = .returned (.bool (validB x y l)) ∧ Fr (fun _ => False) w' w'') := fun w' hf => may_any x y v l w' hx hy (hv.kept hf) hlt
  have HLI : Hid (∀ w', Fr (fun _ => False) w w' → Calls Try.prog 9 #[.agg #[.int .i64 x, .int .i64 y, v]] w' fun e w'' => e = .returned (.bool (lightB x y l)) ∧ Fr (fun _ => False) w' w'') := fun w' hf => light_any x y v l w' hx hy (hv.kept hf) hcap hlt
  have HBX : Hid (∀ w', Fr (fun _ => False) (w.alloc (.cells #[.int .i64 x, .int .i64 y, v] 26)) w' → w'.cell? ⟨w.heap.size, 0, none⟩ = some (.int .i64 x) ∧ w'.cell? ⟨w.heap.size, 1, none⟩ = some (.int .i64 y) ∧ w'.cell? ⟨w.heap.size, 2, none⟩ = some v) := fun w' hf => by
    obtain ⟨c0, c1, c2, _⟩ := cell_of_three ((hf.block w.heap.size (by simp) (fun hh => hh)).trans (heap_alloc_new w _))
    exact ⟨c0, c1, c2⟩
  have HV : Hid (validB x y l = true → ∃ (W H : Nat) (P : Nat → Nat → Bool), x = W ∧ y = H ∧ l = render W H P ∧ Bm w v W H P) := fun h => valid_bm h hv hcap hlt
  obtain ⟨ao, cap, hvv, _, _⟩ := hv
  obtain ⟨n0, HN0⟩ : ∃ n0, Hid (n0 = l.length) := ⟨_, rfl⟩
  rw [← HN0.out] at hvv
  subst hvv
  have HA : Hid (Fr (fun _ => False) w (w.alloc (.cells #[.int .i64 x, .int .i64 y, .slice ao n0 cap] 26))) := (Fr.refl _ _).alloc _
  clear hx hy hcap hlt
  go_enter Try.func5, Try.ntmps5
  go_wp2_with fail
  generalize w.alloc (.cells #[.int .i64 x, .int .i64 y, .slice ao n0 cap] 26) = w0 at *
  refine (HMY.out _ HA.out).mono ?_
  rintro e w1 ⟨rfl, hf1⟩
  have HF1 : Hid (Fr (fun _ => False) w0 w1) := hf1
  obtain ⟨c0, c1, c2⟩ := HBX.out _ hf1
  clear hf1
  cases hvb : validB x y l
  · go_wp2_with fail
    refine (wakes7 _).mono ?_
    rintro e w2 ⟨rfl, hf2⟩
    have HF2 : Hid (Fr (fun _ => False) w w2) := (HA.out.trans HF1.out (fun _ _ h => h)).trans hf2 (fun _ _ h => h)
    clear hf2
    go_wp2_with fail
    go_ret
    exact ⟨rfl, HF2.out⟩
  · go_wp2_with fail
    refine (HLI.out _ (HA.out.trans HF1.out (fun _ _ h => h))).mono ?_
    rintro e w2 ⟨rfl, hf2⟩
    have HF2 : Hid (Fr (fun _ => False) w0 w2) := HF1.out.trans hf2 (fun _ _ h => h)
    clear hf2 c0 c1 c2
    cases hlb : lightB x y l
    · go_wp2_with fail
      refine (wakes7 _).mono ?_
      rintro e w3 ⟨rfl, hf3⟩
      have HF3 : Hid (Fr (fun _ => False) w w3) := (HA.out.trans HF2.out (fun _ _ h => h)).trans hf3 (fun _ _ h => h)
      clear hf3
      go_wp2_with fail
      go_ret
      exact ⟨rfl, HF3.out⟩
    · obtain ⟨W, H, P, rfl, rfl, hl, hbm⟩ := HV.out hvb
      have hsm : W * H ≤ 6000 := by
        unfold lightB at hlb
        simp only [Bool.and_eq_true, Bool.or_eq_true, decide_eq_true_eq, hvb, Bool.not_true, Bool.false_eq_true, false_or] at hlb
        have := hlb.2
        rw [← Int.natCast_mul] at this
        omega
      have hHW : H * (W + 1) ≤ 12000 := by
        have : H * 1 ≤ H * W := Nat.mul_le_mul_left _ hbm.h1
        rw [Nat.mul_add]
        rw [Nat.mul_comm] at hsm
        omega
      have HEn : Hid (∀ (w' : World) (t : Nat) (sk : Bool), t < 4 → Fr (fun _ => False) w w' → Calls Try.prog 11 #[.agg #[.int .i64 W, .int .i64 H, .slice ao n0 cap], .int .i64 t, .bool sk] w' fun e w'' => ∃ g n c, e = .returned (.tuple #[.slice (some ⟨g, 1, none⟩) n c, .int .i64 0]) ∧ SeenAt w'' (.slice (some ⟨g, 1, none⟩) n c) (codedB (sizeT t + 1) (rowsD 0 t W sk P H)) ∧ Fr (fun _ => False) w' w'' ∧ w'.heap.size ≤ g) := fun w' t sk ht f => gencode_ok W H _ P t sk w' (hbm.kept f) ht (by omega)
      have HDe : Hid (∀ (w' : World) (g n c t : Nat) (sk : Bool), t < 4 → SeenAt w' (.slice (some ⟨g, 1, none⟩) n c) (codedB (sizeT t + 1) (rowsD 0 t W sk P H)) → Calls Try.prog 18 #[.slice (some ⟨g, 1, none⟩) n c, .int .i64 W, .int .i64 H, .int .i64 t, .bool sk] w' fun e w'' => ∃ g2 c2, e = .returned (.tuple #[.agg #[.int .i64 W, .int .i64 H, .slice (some ⟨g2, 0, none⟩) n0 c2], .int .i64 0]) ∧ Seen w'' (.slice (some ⟨g2, 0, none⟩) n0 c2) l ∧ Fr (fun _ => False) w' w'') := fun w' g n c t sk ht hs => by
        have hll := rowsD_length 0 t W sk P H
        have hZ := sizeT_le t ht
        obtain ⟨_, _, f3⟩ := size_facts hbm.h1 hbm.h2 hbm.h3
        refine (gdecode_ok _ _ W H t sk w' hs (Or.inr ⟨_, _, _, rfl⟩) (codedB_lt (by omega) (by omega) _ (by omega)) hbm.h1 hbm.h2 hbm.h3 ht (by omega)).mono ?_
        rintro e w2 ⟨g2, cap2, rfl, hr, _, hf⟩
        have hn0 : n0 = H * stride W := by rw [HN0.out, hl, length_render]
        rw [hn0]
        refine ⟨g2, cap2, rfl, ?_, hf⟩
        have := hr.seen f3
        rw [gback W H H t sk P ht (by omega) (Nat.le_refl _), render_congr (fun x y hx hy => cur_all W P H x y hx hy)] at this
        rw [hl]; exact this
      have HPr : Hid (∀ (t : Nat) (sk : Bool) (i : Nat), t < 4 → i + 1 < (codedB (sizeT t + 1) (rowsD 0 t W sk P H)).length → (codedB (sizeT t + 1) (rowsD 0 t W sk P H))[i]?.getD 0 = 255 → (codedB (sizeT t + 1) (rowsD 0 t W sk P H))[i + 1]?.getD 0 ≤ 143) := fun t sk i ht hi h => by
        have hll := rowsD_length 0 t W sk P H
        have hZ := sizeT_le t ht
        exact coded_pairs (by omega) (by omega) _ (by omega) i hi h
      have HBy : Hid (∀ (t : Nat) (sk : Bool), t < 4 → ∀ y ∈ codedB (sizeT t + 1) (rowsD 0 t W sk P H), y < 256) := fun t sk ht => by
        have hll := rowsD_length 0 t W sk P H
        have hZ := sizeT_le t ht
        exact codedB_lt (by omega) (by omega) _ (by omega)
      have HQ : Hid (∀ (w' : World) (g2 c2 : Nat), Fr (fun _ => False) w w' → Seen w' (.slice (some ⟨g2, 0, none⟩) n0 c2) l → Calls Try.prog 21 #[.agg #[.int .i64 W, .int .i64 H, .slice ao n0 cap], .agg #[.int .i64 W, .int .i64 H, .slice (some ⟨g2, 0, none⟩) n0 c2]] w' fun e w'' => e = .returned (.bool true) ∧ Fr (fun _ => False) w' w'') := fun w' g2 c2 f hs => by
        have h2 := (hbm.kept f).seen
        rw [← hl] at h2
        exact eqBitmap_same W H _ _ l w' h2 hs
      clear HMY HLI HV hlb hvb hbm hl hsm hHW
      go_wp2_with fail
      go_loopw [3, 4, 5, 6, 7, 8, 9] (fun a _ _ _ _ _ _ wr => ∃ t : Nat, t ≤ 4 ∧ a = .int .i64 t ∧ Fr (fun _ => False) w0 wr) (fun a _ _ _ _ _ _ _ => 4 - (intOf a).toNat)
      case atStart => exact ⟨0, by omega, rfl, HF2.out⟩
      case round =>
        obtain ⟨t, ht, rfl, hfr⟩ := hrel
        have HFr : Hid (Fr (fun _ => False) w0 wr) := hfr
        clear hfr
        by_cases ht4 : t < 4
        · have hdt : decide ((t : Int) < 4) = true := decide_eq_true (by omega)
          have HT4 : Hid (t < 4) := ht4
          go_wp2_with fail
          go_loopw [4, 5, 6, 7, 8, 9] (fun a _ _ _ _ _ wi => ∃ k : Nat, k ≤ 2 ∧ a = .int .i64 k ∧ Fr (fun _ => False) w0 wi) (fun a _ _ _ _ _ _ => 2 - (intOf a).toNat)
          case atStart => exact ⟨0, by omega, rfl, HFr.out⟩
          case round =>
            obtain ⟨k, hk, rfl, hfi⟩ := hrel
            have HFi : Hid (Fr (fun _ => False) w0 wr) := hfi
            obtain ⟨c0, c1, c2⟩ := HBX.out _ hfi
            clear hfi
            by_cases hk2 : k < 2
            · obtain ⟨sk, HSK⟩ : ∃ sk, Hid (sk = decide (k = 1)) := ⟨_, rfl⟩
              have hske : ((k : Int) == 1) = sk := by rw [HSK.out]; rcases (show k = 0 ∨ k = 1 by omega) with rfl | rfl <;> rfl
              have hdk : decide ((k : Int) < 2) = true := decide_eq_true (by omega)
              go_wp2_with fail
              refine (HEn.out _ t sk HT4.out (HA.out.trans HFi.out (fun _ _ h => h))).mono ?_
              rintro e w3 ⟨g, n, c, rfl, hs3, hf3, _⟩
              have HF3 : Hid (Fr (fun _ => False) w0 w3) := HFi.out.trans hf3 (fun _ _ h => h)
              have HS3 : Hid (SeenAt w3 (.slice (some ⟨g, 1, none⟩) n c) (codedB (sizeT t + 1) (rowsD 0 t W sk P H))) := hs3
              clear hs3 hf3 c0 c1 c2
              obtain ⟨c0, c1, c2⟩ := HBX.out _ HF3.out
              go_wp2_with fail
              refine (HDe.out _ g n c t sk HT4.out HS3.out).mono ?_
              rintro e w4 ⟨g2, cc2, rfl, hs4, hf4⟩
              have HF34 : Hid (Fr (fun _ => False) w3 (w4.alloc (.cells #[.int .i64 W, .int .i64 H, .slice (some ⟨g2, 0, none⟩) n0 cc2] 26))) := hf4.alloc _
              have HF4 : Hid (Fr (fun _ => False) w0 (w4.alloc (.cells #[.int .i64 W, .int .i64 H, .slice (some ⟨g2, 0, none⟩) n0 cc2] 26))) := HF3.out.trans HF34.out (fun _ _ h => h)
              have HS4 : Hid (Seen (w4.alloc (.cells #[.int .i64 W, .int .i64 H, .slice (some ⟨g2, 0, none⟩) n0 cc2] 26)) (.slice (some ⟨g2, 0, none⟩) n0 cc2) l) := hs4.kept ((Fr.refl (fun _ => False) w4).alloc _)
              obtain ⟨y0, y1, y2, yf⟩ := cell_of_three (heap_alloc_new w4 (.cells #[.int .i64 W, .int .i64 H, .slice (some ⟨g2, 0, none⟩) n0 cc2] 26))
              clear hs4 hf4 yf c0 c1 c2
              obtain ⟨c0, c1, c2⟩ := HBX.out _ HF4.out
              go_wp2_with fail
              generalize w4.alloc (.cells #[.int .i64 W, .int .i64 H, .slice (some ⟨g2, 0, none⟩) n0 cc2] 26) = w5 at *
              refine (HQ.out _ g2 cc2 (HA.out.trans HF4.out (fun _ _ h => h)) HS4.out).mono ?_
              rintro e w6 ⟨rfl, hf6⟩
              have HF6 : Hid (Fr (fun _ => False) w0 w6) := HF4.out.trans hf6 (fun _ _ h => h)
              have HS6 : Hid (SeenAt w6 (.slice (some ⟨g, 1, none⟩) n c) (codedB (sizeT t + 1) (rowsD 0 t W sk P H))) := HS3.out.kept (HF34.out.trans hf6 (fun _ _ h => h)) (fun _ _ h => h)
              have HP3 : Hid (∀ i, i + 1 < (codedB (sizeT t + 1) (rowsD 0 t W sk P H)).length → (codedB (sizeT t + 1) (rowsD 0 t W sk P H))[i]?.getD 0 = 255 → (codedB (sizeT t + 1) (rowsD 0 t W sk P H))[i + 1]?.getD 0 ≤ 143) := fun i => HPr.out t sk i HT4.out
              have HB2 : Hid (∀ y ∈ codedB (sizeT t + 1) (rowsD 0 t W sk P H), y < 256) := HBy.out t sk HT4.out
              generalize codedB (sizeT t + 1) (rowsD 0 t W sk P H) = B at *
              have HL6 : Hid (n = B.length ∧ n ≤ 140737488355328) := by
                obtain ⟨ao', cap', e, hl', _⟩ := HS6.out
                simp only [Value.slice.injEq] at e
                exact ⟨e.2.1, by rw [e.2.1]; exact hl'⟩
              have hnl := HL6.out.2
              clear hf6 y0 y1 y2 c0 c1 c2 HF34 HS3 HS4
              go_wp2_with fail
              go_loopw [9] (fun a wj => ∃ i : Nat, 1 ≤ i ∧ a = .int .i64 i ∧ wj = w6) (fun a _ => n - (intOf a).toNat)
              case atStart => exact ⟨1, by omega, rfl, rfl⟩
              case round =>
                obtain ⟨i, hi1, rfl, rfl⟩ := hrel
                by_cases hin : i < n
                · obtain ⟨j, rfl⟩ : ∃ j, i = j + 1 := ⟨i - 1, by omega⟩
                  have hBn : B.length = n := HL6.out.1.symm
                  obtain ⟨a1, c1', e1, _, hcell⟩ := HS6.out
                  simp only [Value.slice.injEq] at e1
                  obtain ⟨b1, o1, ea, hcell⟩ := hcell (by intro e; rw [e] at hBn; simp at hBn; omega)
                  rw [ea] at e1
                  simp only [Option.some.injEq, Addr.mk.injEq, and_true] at e1
                  obtain ⟨⟨rfl, rfl⟩, _, _⟩ := e1
                  have k0 := hcell j (by omega)
                  have k1 := hcell (j + 1) (by omega)
                  have hp := HP3.out j (by omega)
                  have hb0 : B[j]?.getD 0 < 256 := by
                    rw [List.getElem?_eq_getElem (by omega)]; exact HB2.out _ (List.getElem_mem _)
                  have hb1 : B[j + 1]?.getD 0 < 256 := by
                    rw [List.getElem?_eq_getElem (by omega)]; exact HB2.out _ (List.getElem_mem _)
                  have hjn : j + 1 < n := hin
                  clear hcell ea hBn hin
                  generalize B[j]?.getD 0 = X0 at *
                  generalize B[j + 1]?.getD 0 = X1 at *
                  by_cases h255 : X0 = 255
                  · have hx1 := hp h255
                    subst h255
                    have hd9 : decide ((143 : Int) < (X1 : Int)) = false := decide_eq_false (by omega)
                    go_wp2_with fail
                    exact ⟨⟨j + 2, by omega, congrArg (Value.int .i64) (by omega), trivial⟩, by simp only [intOf]; omega⟩
                  · have hd9 : ((X0 : Int) == 255) = false := by rw [beq_eq_false_iff_ne]; omega
                    go_wp2_with fail
                    exact ⟨⟨j + 2, by omega, congrArg (Value.int .i64) (by omega), trivial⟩, by simp only [intOf]; omega⟩
                · have hdn : decide ((i : Int) < (n : Int)) = false := decide_eq_false (by omega)
                  go_wp2_with fail
                  exact ⟨⟨k + 1, by omega, by rw [Int.natCast_add]; rfl, HF6.out⟩, by simp only [intOf]; omega⟩
            · obtain rfl : k = 2 := by omega
              go_wp2_with fail
              exact ⟨⟨t + 1, by omega, by rw [Int.natCast_add]; rfl, HFi.out⟩, by simp only [intOf]; omega⟩
        · obtain rfl : t = 4 := by omega
          go_wp2_with fail
          refine (wakes7 _).mono ?_
          rintro e w9 ⟨rfl, hf9⟩
          have HF9 : Hid (Fr (fun _ => False) w w9) := (HA.out.trans HFr.out (fun _ _ h => h)).trans hf9 (fun _ _ h => h)
          clear hf9
          go_wp2_with fail
          go_ret
          exact ⟨rfl, HF9.out⟩

end Go.Proofs.Ytkggdnkmaldmlaa
