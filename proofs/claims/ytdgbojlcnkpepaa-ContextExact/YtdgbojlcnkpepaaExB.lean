/- The law 'ContextExact'. -/
import Derived.Test.YtdgbojlcnkpepaaRl
import Derived.Test.YtdgbojlcnkpepaaBd
import Derived.Test.YtdgbojlcnkpepaaRw
import Derived.Test.YtdgbojlcnkpepaaOpen
namespace Go.Proofs.Ytdgbojlcnkpepaa
open Go.RowKit

set_option maxRecDepth 100000 in
set_option maxHeartbeats 40000000 in
theorem exact_B (x y : Int) (v : Value) (l : List Nat) (T : Int) (ao : Option Addr) (n ca : Nat) (X : Nat → Int) (bo : Option Addr) (m cb : Nat) (Y : Nat → Int) (w : World) (hx : -9223372036854775808 ≤ x ∧ x ≤ 9223372036854775807) (hy : -9223372036854775808 ≤ y ∧ y ≤ 9223372036854775807) (hv : Seen w v l) (hcap : CapOK v) (hlt : ∀ j : Nat, l[j]?.getD 0 < 18446744073709551616) (hX : IntsAt w ao n X) (hY : IntsAt w bo m Y) (hnil : NilOK v) (hTT : ¬ (T < 0 ∨ 4 ≤ T)) (hvf : validB x y l = false) :
    Calls Try.prog 3 #[.agg #[.int .i64 x, .int .i64 y, v, .int .i64 T, .slice ao n ca, .slice bo m cb]] w fun e w' => e = .returned (.bool true) ∧ Fr (fun _ => False) w w' := by
  have HMY : Hid (∀ w', Fr (fun _ => False) w w' → Calls Try.prog 8 #[.agg #[.int .i64 x, .int .i64 y, v]] w' fun e w'' => e = .returned (.bool (validB x y l)) ∧ Fr (fun _ => False) w' w'') := fun w' hf => may_any x y v l w' hx hy (hv.kept hf) hlt
  have HV : Hid (validB x y l = true → ∃ (W H : Nat) (P : Nat → Nat → Bool), x = W ∧ y = H ∧ l = render W H P ∧ Bm w v W H P) := fun h => valid_bm h hv hcap hlt
  have HX0 : Hid (0 < n → ∃ b off, ao = some ⟨b, off, none⟩ ∧ ∀ w', Fr (fun _ => False) w w' → ∀ j, j < n → w'.cell? ⟨b, off + j, none⟩ = some (.int .i64 (X j))) := fun h => by
    obtain ⟨b, off, rfl, hc⟩ := hX.2.1 h
    exact ⟨b, off, rfl, fun w' hf j hj => by rw [hf.cell (seen_lt (hc j hj)) (fun hh => hh)]; exact hc j hj⟩
  have HY0 : Hid (0 < m → ∃ b off, bo = some ⟨b, off, none⟩ ∧ ∀ w', Fr (fun _ => False) w w' → ∀ j, j < m → w'.cell? ⟨b, off + j, none⟩ = some (.int .i64 (Y j))) := fun h => by
    obtain ⟨b, off, rfl, hc⟩ := hY.2.1 h
    exact ⟨b, off, rfl, fun w' hf j hj => by rw [hf.cell (seen_lt (hc j hj)) (fun hh => hh)]; exact hc j hj⟩
  have HXb : Hid ((∀ i, i < n → -9223372036854775808 ≤ X i ∧ X i ≤ 9223372036854775807) ∧ ∀ i, i < m → -9223372036854775808 ≤ Y i ∧ Y i ≤ 9223372036854775807) := ⟨hX.2.2, hY.2.2⟩
  have hnl := hX.1
  have hml := hY.1
  have HXY : Hid ((-9223372036854775808 ≤ x ∧ x ≤ 9223372036854775807) ∧ (-9223372036854775808 ≤ y ∧ y ≤ 9223372036854775807)) := ⟨hx, hy⟩
  have HLt : Hid (∀ j : Nat, l[j]?.getD 0 < 18446744073709551616) := hlt
  have HSn1 : Hid (∀ w', Fr (fun _ => False) w w' → Seen w' v l) := fun w' hf => hv.kept hf
  have HNl : Hid (NilOK v) := hnil
  obtain ⟨ao0, cap0, rfl, _, _⟩ := hv
  generalize hnn : l.length = nn at *
  have HNn : Hid (nn = l.length) := hnn.symm
  have HSn0 : Hid (∀ w', Fr (fun _ => False) w w' → Seen w' (.slice ao0 nn cap0) l) := HSn1.out
  have HBX : Hid (∀ w', Fr (fun _ => False) (w.alloc (.cells #[.int .i64 x, .int .i64 y, .slice ao0 nn cap0, .int .i64 T, .slice ao n ca, .slice bo m cb] 27)) w' → w'.cell? ⟨w.heap.size, 0, none⟩ = some (.int .i64 x) ∧ w'.cell? ⟨w.heap.size, 1, none⟩ = some (.int .i64 y) ∧ w'.cell? ⟨w.heap.size, 2, none⟩ = some (.slice ao0 nn cap0) ∧ w'.cell? ⟨w.heap.size, 3, none⟩ = some (.int .i64 T) ∧ w'.cell? ⟨w.heap.size, 4, none⟩ = some (.slice ao n ca) ∧ w'.cell? ⟨w.heap.size, 5, none⟩ = some (.slice bo m cb)) := fun w' hf =>
    cell_of_six (blkOld hf (heap_alloc_new w (.cells #[.int .i64 x, .int .i64 y, .slice ao0 nn cap0, .int .i64 T, .slice ao n ca, .slice bo m cb] 27)))
  have HA : Hid (Fr (fun _ => False) w (w.alloc (.cells #[.int .i64 x, .int .i64 y, .slice ao0 nn cap0, .int .i64 T, .slice ao n ca, .slice bo m cb] 27))) := (Fr.refl _ _).alloc _
  clear hcap hlt hx hy hX hY hnil hnn HSn1
  by_cases hbig : 500 < nn
  · have hd0 : decide ((500 : Int) < (nn : Int)) = true := decide_eq_true (by omega)
    go_enter Try.func3, Try.ntmps3
    go_wp2_with fail
    refine (wakes_any _).mono ?_
    rintro e w2 ⟨rfl, hf2⟩
    have HF2 : Hid (Fr (fun _ => False) w w2) := HA.out.trans hf2 (fun _ _ h => h)
    clear hf2
    go_wp2_with fail
    go_ret
    exact ⟨rfl, HF2.out⟩
  · have hd0 : decide ((500 : Int) < (nn : Int)) = false := decide_eq_false (by omega)
    have HL5 : Hid (l.length ≤ 500) := by show _ ≤ _; have := HNn.out; omega
    have HLend : Hid (∀ w', Fr (fun _ => False) w w' → Calls Try.prog 13 #[.agg #[.int .i64 x, .int .i64 y, .slice ao0 nn cap0]] w' fun e w'' => ∃ g, e = .returned (.agg #[.int .i64 x, .int .i64 y, .slice (some ⟨g, 0, none⟩) nn (nn + 7)]) ∧ Lent w'' g l ∧ w'.heap.size ≤ g ∧ Fr (fun _ => False) w' w'') := fun w' hf => by
      have h := lendB_any x y (.slice ao0 nn cap0) l w' (HSn0.out _ hf) HNl.out HL5.out
      rwa [← HNn.out] at h
    go_enter Try.func3, Try.ntmps3
    go_wp2_with fail
    generalize w.alloc (.cells #[.int .i64 x, .int .i64 y, .slice ao0 nn cap0, .int .i64 T, .slice ao n ca, .slice bo m cb] 27) = w0 at *
    refine (HMY.out _ HA.out).mono ?_
    rintro e w1 ⟨rfl, hf1⟩
    have HF1 : Hid (Fr (fun _ => False) w0 w1) := hf1
    obtain ⟨c0, c1, c2, c3, c4, c5⟩ := HBX.out _ hf1
    clear hf1
    rw [hvf]
    have HVf : Hid (validB x y l = false) := hvf
    have HMYf : Hid (∀ w', Fr (fun _ => False) w w' → Calls Try.prog 8 #[.agg #[.int .i64 x, .int .i64 y, .slice ao0 nn cap0]] w' fun e w'' => e = .returned (.bool false) ∧ Fr (fun _ => False) w' w'') := by rw [← hvf]; exact HMY.out
    clear hvf HV HMY
    obtain ⟨t, rfl⟩ : ∃ t : Nat, T = (t : Int) := ⟨T.toNat, by omega⟩
    have HT : Hid (t < 4) := by show t < 4; omega
    have HM6 : Hid (∀ w' : World, Calls Try.prog 11 #[.int .i64 (t : Int)] w' fun e w'' => e = .returned (.bool true) ∧ w'' = w') := fun w' => may6_any t w' true (by symm; exact decide_eq_true (by have := HT.out; omega))
    clear hTT
    go_wp2_with fail
    refine (size_any t HT.out _).mono ?_
    rintro e w2 ⟨rfl, hf2⟩
    have HF2 : Hid (Fr (fun _ => False) w0 w2) := HF1.out.trans hf2 (fun _ _ h => h)
    clear hf2 c0 c1 c2 c3 c4 c5
    obtain ⟨c0, c1, c2, c3, c4, c5⟩ := HBX.out _ HF2.out
    have HS6 : Hid (∀ w', Calls Try.prog 12 #[.int .i64 (t : Int)] w' fun e w'' => e = .returned (.int .i64 (sizeT t : Nat)) ∧ Fr (fun _ => False) w' w'') := fun w' => size6_any t HT.out w'
    generalize sizeT t = Z at *
    have hneZ : ((Z : Int) != (Z : Int)) = false := by simp
    go_wp2_with fail
    refine (HM6.out _).mono ?_
    rintro e wm ⟨rfl, hwm⟩
    obtain rfl := hwm.symm
    go_wp2_with fail
    refine (HM6.out _).mono ?_
    rintro e wm ⟨rfl, hwm⟩
    obtain rfl := hwm.symm
    go_wp2_with fail
    refine (HS6.out _).mono ?_
    rintro e w3 ⟨rfl, hf3⟩
    have HFs : Hid (Fr (fun _ => False) w0 w3) := HF2.out.trans hf3 (fun _ _ h => h)
    clear hf3 c0 c1 c2 c3 c4 c5
    go_wp2_with fail
    go_loopw [5, 6, 7, 8, 9, 10, 11] (fun i _ _ _ _ _ _ wr => ∃ I : Nat, I ≤ 30 ∧ i = .int .i64 I ∧ Fr (fun _ => False) w0 wr) (fun i _ _ _ _ _ _ _ => 30 - (intOf i).toNat)
    case atStart => exact ⟨0, by omega, rfl, HFs.out⟩
    case round =>
      obtain ⟨I, hI, rfl, hfr⟩ := hrel
      have HFi : Hid (Fr (fun _ => False) w0 wr) := hfr
      have HFi0 : Hid (Fr (fun _ => False) w wr) := HA.out.trans hfr (fun _ _ h => h)
      obtain ⟨c0, c1, c2, c3, c4, c5⟩ := HBX.out _ hfr
      by_cases h1 : I < n
      · have hd1' : decide (I < n) = true := decide_eq_true h1
        by_cases h2 : I < m
        · have hd2' : decide (I < m) = true := decide_eq_true h2
          by_cases h8 : I < 30
          · have hd8 : decide ((I : Int) < 30) = true := decide_eq_true (by omega)
            obtain ⟨bX, oX, eX, hcX⟩ := HX0.out (by omega)
            obtain ⟨bY, oY, eY, hcY⟩ := HY0.out (by omega)
            subst eX
            subst eY
            have HXi : Hid (∀ w', Fr (fun _ => False) w w' → w'.cell? ⟨bX, oX + I, none⟩ = some (.int .i64 (X I))) := fun w' hf => hcX w' hf I h1
            have HYi : Hid (∀ w', Fr (fun _ => False) w w' → w'.cell? ⟨bY, oY + I, none⟩ = some (.int .i64 (Y I))) := fun w' hf => hcY w' hf I h2
            have HXIb : Hid ((-9223372036854775808 ≤ X I ∧ X I ≤ 9223372036854775807) ∧ (-9223372036854775808 ≤ Y I ∧ Y I ≤ 9223372036854775807)) := ⟨HXb.out.1 I h1, HXb.out.2 I h2⟩
            have d0 := HXi.out _ HFi0.out
            have d1 := HYi.out _ HFi0.out
            clear hfr hcX hcY
            generalize X I = XI at *
            generalize Y I = YI at *
            go_wp2_with fail
            refine (HLend.out _ HFi0.out).mono ?_
            rintro e w5 ⟨g, rfl, hle, hg5, hf5⟩
            have HLe5 : Hid (Lent w5 g l) := hle
            have HF5 : Hid (Fr (fun _ => False) w0 w5) := HFi.out.trans hf5 (fun _ _ h => h)
            have HG : Hid (w0.heap.size ≤ g ∧ g < w5.heap.size) := ⟨Nat.le_trans HFi.out.size hg5, hle.lt⟩
            clear hle hg5 hf5 c0 c1 c2 c3 c4 c5 d0 d1
            go_upto_region 10 with (fail)
            generalize hw6 : w5.alloc (.cells #[.int .i64 x, .int .i64 y, .slice (some ⟨g, 0, none⟩) nn (nn + 7)] 24) = w6
            have HF6 : Hid (Fr (fun _ => False) w0 w6) := by rw [← hw6]; exact HF5.out.alloc _
            have HLe : Hid (∀ w', Fr (fun _ => False) w6 w' → Lent w' g l) := fun w' hf => HLe5.out.kept (((Fr.refl (fun _ => False) w5).alloc _).trans (by rw [hw6]; exact hf) (fun _ _ h => h)) (fun h => h)
            have HCB : Hid (w6.heap[w5.heap.size]? = some (.cells #[.int .i64 x, .int .i64 y, .slice (some ⟨g, 0, none⟩) nn (nn + 7)] 24 (0, 0))) := by rw [← hw6]; exact heap_alloc_new _ _
            have HGb : Hid (g ≠ w5.heap.size ∧ g < w6.heap.size) := ⟨by have := HG.out; omega, by have := HG.out; have := lt_of_block HCB.out; omega⟩
            clear hw6
            generalize w5.heap.size = bb at *
            have HD : Hid (∀ w', Fr (fun _ => False) w6 w' → w'.cell? ⟨w.heap.size, 0, none⟩ = some (.int .i64 x) ∧ w'.cell? ⟨w.heap.size, 1, none⟩ = some (.int .i64 y) ∧ w'.cell? ⟨w.heap.size, 2, none⟩ = some (.slice ao0 nn cap0) ∧ w'.cell? ⟨w.heap.size, 3, none⟩ = some (.int .i64 (t : Int)) ∧ w'.cell? ⟨w.heap.size, 4, none⟩ = some (.slice (some ⟨bX, oX, none⟩) n ca) ∧ w'.cell? ⟨w.heap.size, 5, none⟩ = some (.slice (some ⟨bY, oY, none⟩) m cb) ∧ w'.cell? ⟨bX, oX + I, none⟩ = some (.int .i64 XI) ∧ w'.cell? ⟨bY, oY + I, none⟩ = some (.int .i64 YI) ∧ w'.cell? ⟨bb, 0, none⟩ = some (.int .i64 x) ∧ w'.cell? ⟨bb, 1, none⟩ = some (.int .i64 y) ∧ w'.cell? ⟨bb, 2, none⟩ = some (.slice (some ⟨g, 0, none⟩) nn (nn + 7))) := fun w' hf => by
              have h1 := HF6.out.trans hf (fun _ _ h => h)
              obtain ⟨a0, a1, a2, a3, a4, a5⟩ := HBX.out _ h1
              obtain ⟨b0, b1, b2, _⟩ := cell_of_three (blkOld hf HCB.out)
              exact ⟨a0, a1, a2, a3, a4, a5, HXi.out _ (HA.out.trans h1 (fun _ _ h => h)), HYi.out _ (HA.out.trans h1 (fun _ _ h => h)), b0, b1, b2⟩
            have HSn : Hid (∀ w', Fr (fun _ => False) w6 w' → Seen w' (.slice (some ⟨g, 0, none⟩) nn (nn + 7)) l) := fun w' hf => by
              have h := (HLe.out _ hf).seen (by have := HL5.out; omega)
              rwa [← HNn.out] at h
            have HAt : Hid (∀ w', Fr (fun _ => False) w6 w' → Calls Try.prog 14 #[.agg #[.int .i64 x, .int .i64 y, .slice (some ⟨g, 0, none⟩) nn (nn + 7)], .int .i64 (t : Int), .int .i64 XI, .int .i64 YI] w' fun e w'' => e = .returned (.tuple #[.int .i64 0, .int .i64 62]) ∧ Fr (fun _ => False) w' w'') := fun w' hf => at_badF x y _ l t XI YI w' HXY.out.1 HXY.out.2 (HSn.out _ hf) HLt.out HT.out HVf.out
            have HRo : Hid (∀ w', Fr (fun _ => False) w6 w' → Calls Try.prog 15 #[.agg #[.int .i64 x, .int .i64 y, .slice (some ⟨g, 0, none⟩) nn (nn + 7)], .int .i64 (t : Int), .int .i64 YI] w' fun e w'' => e = .returned (.tuple #[.slice none 0 0, .int .i64 62]) ∧ Fr (fun _ => False) w' w'') := fun w' hf => row_badF x y _ l t YI w' HXY.out.1 HXY.out.2 (HSn.out _ hf) HLt.out HT.out HVf.out
            obtain ⟨a0, a1, a2, a3, a4, a5, a6, a7, b0, b1, b2⟩ := HD.out w6 (Fr.refl _ _)
            have hI0 : (0 : Int) ≤ (I : Int) := by omega
            have hIn : (I : Int) < (n : Int) := by omega
            have hIm : (I : Int) < (m : Int) := by omega
            go_region_held3 (fun w' => w'.cell? ⟨w.heap.size, 0, none⟩ = some (.int .i64 x) ∧ w'.cell? ⟨w.heap.size, 1, none⟩ = some (.int .i64 y) ∧ w'.cell? ⟨w.heap.size, 2, none⟩ = some (.slice ao0 nn cap0) ∧ w'.cell? ⟨w.heap.size, 3, none⟩ = some (.int .i64 (t : Int)) ∧ w'.cell? ⟨w.heap.size, 4, none⟩ = some (.slice (some ⟨bX, oX, none⟩) n ca) ∧ w'.cell? ⟨w.heap.size, 5, none⟩ = some (.slice (some ⟨bY, oY, none⟩) m cb) ∧ w'.cell? ⟨bX, oX + I, none⟩ = some (.int .i64 XI) ∧ w'.cell? ⟨bY, oY + I, none⟩ = some (.int .i64 YI) ∧ w'.cell? ⟨bb, 0, none⟩ = some (.int .i64 x) ∧ w'.cell? ⟨bb, 1, none⟩ = some (.int .i64 y) ∧ w'.cell? ⟨bb, 2, none⟩ = some (.slice (some ⟨g, 0, none⟩) nn (nn + 7))) (exact HD.out _ (by repeat (first | with_reducible exact Fr.refl _ _ | with_reducible refine Fr.drew ?_ | with_reducible refine Fr.trans ?_ hfB (fun _ _ hh => hh) | with_reducible refine Fr.trans ?_ hfA (fun _ _ hh => hh)))) (first | (go_at_call 14; refine (HAt.out _ (by first | exact (Fr.refl _ _).drew | exact Fr.refl _ _)).mono ?_; rintro e w7 ⟨rfl, hfA⟩))
            have HF7 : Hid (Fr (fun _ => False) w6 w7) := (Fr.refl (fun _ => False) w6).drew.trans hfA (fun _ _ hh => hh)
            clear hfA
            go_wp2_with fail
            clear a0 a1 a2 a3 a4 a5 a6 a7 b0 b1 b2
            obtain ⟨a0, a1, a2, a3, a4, a5, a6, a7, b0, b1, b2⟩ := HD.out w7 HF7.out
            have HRo7 : Hid (∀ w', Fr (fun _ => False) w7 w' → Calls Try.prog 15 #[.agg #[.int .i64 x, .int .i64 y, .slice (some ⟨g, 0, none⟩) nn (nn + 7)], .int .i64 (t : Int), .int .i64 YI] w' fun e w'' => e = .returned (.tuple #[.slice none 0 0, .int .i64 62]) ∧ Fr (fun _ => False) w' w'') := fun w' hf => HRo.out w' (HF7.out.trans hf (fun _ _ h => h))
            have HD7 : Hid (∀ w', Fr (fun _ => False) w7 w' → w'.cell? ⟨w.heap.size, 0, none⟩ = some (.int .i64 x) ∧ w'.cell? ⟨w.heap.size, 1, none⟩ = some (.int .i64 y) ∧ w'.cell? ⟨w.heap.size, 2, none⟩ = some (.slice ao0 nn cap0) ∧ w'.cell? ⟨w.heap.size, 3, none⟩ = some (.int .i64 (t : Int)) ∧ w'.cell? ⟨w.heap.size, 4, none⟩ = some (.slice (some ⟨bX, oX, none⟩) n ca) ∧ w'.cell? ⟨w.heap.size, 5, none⟩ = some (.slice (some ⟨bY, oY, none⟩) m cb) ∧ w'.cell? ⟨bX, oX + I, none⟩ = some (.int .i64 XI) ∧ w'.cell? ⟨bY, oY + I, none⟩ = some (.int .i64 YI) ∧ w'.cell? ⟨bb, 0, none⟩ = some (.int .i64 x) ∧ w'.cell? ⟨bb, 1, none⟩ = some (.int .i64 y) ∧ w'.cell? ⟨bb, 2, none⟩ = some (.slice (some ⟨g, 0, none⟩) nn (nn + 7))) := fun w' hf => HD.out _ (HF7.out.trans hf (fun _ _ h => h))
            go_region_held3 (fun w' => w'.cell? ⟨w.heap.size, 0, none⟩ = some (.int .i64 x) ∧ w'.cell? ⟨w.heap.size, 1, none⟩ = some (.int .i64 y) ∧ w'.cell? ⟨w.heap.size, 2, none⟩ = some (.slice ao0 nn cap0) ∧ w'.cell? ⟨w.heap.size, 3, none⟩ = some (.int .i64 (t : Int)) ∧ w'.cell? ⟨w.heap.size, 4, none⟩ = some (.slice (some ⟨bX, oX, none⟩) n ca) ∧ w'.cell? ⟨w.heap.size, 5, none⟩ = some (.slice (some ⟨bY, oY, none⟩) m cb) ∧ w'.cell? ⟨bX, oX + I, none⟩ = some (.int .i64 XI) ∧ w'.cell? ⟨bY, oY + I, none⟩ = some (.int .i64 YI) ∧ w'.cell? ⟨bb, 0, none⟩ = some (.int .i64 x) ∧ w'.cell? ⟨bb, 1, none⟩ = some (.int .i64 y) ∧ w'.cell? ⟨bb, 2, none⟩ = some (.slice (some ⟨g, 0, none⟩) nn (nn + 7))) (exact HD7.out _ (by repeat (first | with_reducible exact Fr.refl _ _ | with_reducible refine Fr.drew ?_ | with_reducible refine Fr.trans ?_ hfB (fun _ _ hh => hh) | with_reducible refine Fr.trans ?_ hfA (fun _ _ hh => hh)))) (first | (go_at_call 15; refine (HRo7.out _ (by first | exact (Fr.refl _ _).drew | exact Fr.refl _ _)).mono ?_; rintro e w8 ⟨rfl, hfA⟩))
            have HF8 : Hid (Fr (fun _ => False) w6 w8) := HF7.out.trans ((Fr.refl (fun _ => False) w7).drew.trans hfA (fun _ _ hh => hh)) (fun _ _ hh => hh)
            clear hfA
            clear a0 a1 a2 a3 a4 a5 a6 a7 b0 b1 b2
            obtain ⟨a0, a1, a2, a3, a4, a5, a6, a7, b0, b1, b2⟩ := HD.out w8 HF8.out
            have HBk : Hid (Calls Try.prog 16 #[.agg #[.int .i64 x, .int .i64 y, .slice (some ⟨g, 0, none⟩) nn (nn + 7)], .agg #[.int .i64 x, .int .i64 y, .slice ao0 nn cap0]] w8 fun e w' => e = .returned (.bool true) ∧ Fr (fun k => k = g) w8 w') := by
              have h := backB_any x y g (.slice ao0 nn cap0) l w8 HL5.out (HLe.out _ HF8.out) (HSn0.out _ (HA.out.trans (HF6.out.trans HF8.out (fun _ _ h => h)) (fun _ _ h => h)))
              rwa [← HNn.out] at h
            go_wp2_with fail
            refine HBk.out.mono ?_
            rintro e w9 ⟨rfl, hf9⟩
            have HF9 : Hid (Fr (fun _ => False) w0 w9) := (HF6.out.trans HF8.out (fun _ _ h => h)).trans hf9 (fun i hi e => by have := HG.out; omega)
            clear hf9 a0 a1 a2 a3 a4 a5 a6 a7 b0 b1 b2
            have HD9 : Hid (∀ w', Fr (fun _ => False) w9 w' → w'.cell? ⟨w.heap.size, 0, none⟩ = some (.int .i64 x) ∧ w'.cell? ⟨w.heap.size, 1, none⟩ = some (.int .i64 y) ∧ w'.cell? ⟨w.heap.size, 2, none⟩ = some (.slice ao0 nn cap0) ∧ w'.cell? ⟨w.heap.size, 3, none⟩ = some (.int .i64 (t : Int)) ∧ w'.cell? ⟨w.heap.size, 4, none⟩ = some (.slice (some ⟨bX, oX, none⟩) n ca) ∧ w'.cell? ⟨w.heap.size, 5, none⟩ = some (.slice (some ⟨bY, oY, none⟩) m cb) ∧ w'.cell? ⟨bX, oX + I, none⟩ = some (.int .i64 XI) ∧ w'.cell? ⟨bY, oY + I, none⟩ = some (.int .i64 YI)) := fun w' hf => by
              have h1 := HF9.out.trans hf (fun _ _ h => h)
              obtain ⟨a0, a1, a2, a3, a4, a5⟩ := HBX.out _ h1
              exact ⟨a0, a1, a2, a3, a4, a5, HXi.out _ (HA.out.trans h1 (fun _ _ h => h)), HYi.out _ (HA.out.trans h1 (fun _ _ h => h))⟩
            obtain ⟨a0, a1, a2, a3, a4, a5, a6, a7⟩ := HD9.out w9 (Fr.refl _ _)
            go_wp2_with fail
            refine (HM6.out _).mono ?_
            rintro e wm ⟨rfl, hwm⟩
            obtain rfl := hwm.symm
            go_wp2_with fail
            refine (HMYf.out _ (HA.out.trans HF9.out (fun _ _ h => h))).mono ?_
            rintro e wn ⟨rfl, hfn⟩
            have HFn : Hid (Fr (fun _ => False) w0 wn) := HF9.out.trans hfn (fun _ _ h => h)
            clear hfn
            go_wp2_with fail
            refine (overI_nil _).mono ?_
            rintro e wo ⟨rfl, hfo⟩
            have HFo : Hid (Fr (fun _ => False) w0 wo) := HFn.out.trans hfo (fun _ _ h => h)
            clear hfo
            go_wp2_with fail
            go_roundw
            case rel => exact ⟨I + 1, by omega, congrArg (Value.int .i64) (by omega), HFo.out⟩
            case measure => simp [intOf]; omega
          · have hd8 : decide ((I : Int) < 30) = false := decide_eq_false (by omega)
            clear hfr
            go_wp2_with fail
            refine (wakes_any _).mono ?_
            rintro e w2 ⟨rfl, hf2⟩
            have HF2 : Hid (Fr (fun _ => False) w w2) := (HA.out.trans HFi.out (fun _ _ h => h)).trans hf2 (fun _ _ h => h)
            clear hf2
            go_wp2_with fail
            go_ret
            exact ⟨rfl, HF2.out⟩
        · have hd2' : decide (I < m) = false := decide_eq_false h2
          clear hfr
          go_wp2_with fail
          refine (wakes_any _).mono ?_
          rintro e w2 ⟨rfl, hf2⟩
          have HF2 : Hid (Fr (fun _ => False) w w2) := (HA.out.trans HFi.out (fun _ _ h => h)).trans hf2 (fun _ _ h => h)
          clear hf2
          go_wp2_with fail
          go_ret
          exact ⟨rfl, HF2.out⟩
      · have hd1' : decide (I < n) = false := decide_eq_false h1
        clear hfr
        go_wp2_with fail
        refine (wakes_any _).mono ?_
        rintro e w2 ⟨rfl, hf2⟩
        have HF2 : Hid (Fr (fun _ => False) w w2) := (HA.out.trans HFi.out (fun _ _ h => h)).trans hf2 (fun _ _ h => h)
        clear hf2
        go_wp2_with fail
        go_ret
        exact ⟨rfl, HF2.out⟩

end Go.Proofs.Ytdgbojlcnkpepaa
