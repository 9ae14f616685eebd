/- The reference's 'Write' of digits. -/
import Derived.Test.YtpfajkkjnobdlaaDoorWc
import Derived.Test.YtpfajkkjnobdlaaDoorNu
import Derived.Test.YtpfajkkjnobdlaaDoorCrop
import Derived.Test.YtpfajkkjnobdlaaDoorMay
import Derived.Test.YtpfajkkjnobdlaaDoorWx
namespace Go.Proofs.YtpfajkkjnobdlaaDoor
set_option maxRecDepth 100000
open Go.RowKit

set_option linter.unusedSimpArgs false in
set_option maxHeartbeats 4000000 in
theorem rwrite_txt (W H : Nat) (v : Value) (P : Nat → Nat → Bool) (w : World) (hv : Seen w v (render W H P)) (hs : 1 ≤ W ∧ 1 ≤ H ∧ W * H ≤ 1048576)
    (hmay : ∀ w', Fr (fun _ => False) w w' → Calls Tryd.prog 18 #[.agg #[.int .i64 (W : Int), .int .i64 (H : Int), v]] w' fun e w'' => e = .returned (.bool true) ∧ Fr (fun _ => False) w' w'') :
    Calls Tryd.prog 9 #[.agg #[.int .i64 (W : Int), .int .i64 (H : Int), v], .int .i64 0] w fun e w' => Fr (fun _ => False) w w' ∧ ∃ r, e = .returned (.tuple #[r, .int .i64 0]) ∧ FileR w (headS 49 W H ++ txtT W H P) r w' := by
  obtain ⟨i0, hi, hz0, hz1, hz2⟩ := info_parts Tryd.info5
  have kc := fun (w : World) (s : ByteArray) => run_bytes_of_string (P := Tryd.prog) w 9 27 5 s Tryd.underlying9 Tryd.underlying27 Tryd.underlying5
  have HV : Hid (Seen w v (render W H P)) := hv
  have HMY : Hid (∀ w', Fr (fun _ => False) w w' → Calls Tryd.prog 18 #[.agg #[.int .i64 (W : Int), .int .i64 (H : Int), v]] w' fun e w'' => e = .returned (.bool true) ∧ Fr (fun _ => False) w' w'') := hmay
  have HSZ : Hid (1 ≤ W ∧ 1 ≤ H ∧ W * H ≤ 1048576) := hs
  obtain ⟨f1, f2, f3⟩ := size_facts hs.1 hs.2.1 hs.2.2
  obtain ⟨ao, cap, rfl, hll, _⟩ := hv
  generalize (render W H P).length = n at *
  have HF1 : Hid (Fr (fun _ => False) w (w.alloc (.cells #[.int .i64 (W : Int), .int .i64 (H : Int), .slice ao n cap] 25))) := (Fr.refl _ w).alloc _
  have HB1 : Hid ((w.alloc (.cells #[.int .i64 (W : Int), .int .i64 (H : Int), .slice ao n cap] 25)).heap[w.heap.size]? = some (.cells #[.int .i64 (W : Int), .int .i64 (H : Int), .slice ao n cap] 25 (0, 0))) := heap_alloc_new w _
  clear hmay hs f3
  have lenW : (Lib.decDigits W).length ≤ 1048577 := decDigits_len W f1
  have lenH : (Lib.decDigits H).length ≤ 1048577 := decDigits_len H f2
  have HK1 : Hid (W ≤ 1048576 ∧ H ≤ 1048576) := ⟨f1, f2⟩
  obtain ⟨S1, hS1⟩ : ∃ S1, S1 = str ([80, 49] ++ [10] ++ Lib.decDigits W) := ⟨_, rfl⟩
  obtain ⟨S2, hS2⟩ : ∃ S2, S2 = str ([80, 49] ++ [10] ++ Lib.decDigits W ++ [32]) := ⟨_, rfl⟩
  obtain ⟨S3, hS3⟩ : ∃ S3, S3 = str ([80, 49] ++ [10] ++ Lib.decDigits W ++ [32] ++ Lib.decDigits H) := ⟨_, rfl⟩
  obtain ⟨S5, hS5⟩ : ∃ S5, S5 = str ([80, 49] ++ [10] ++ Lib.decDigits W ++ [32] ++ Lib.decDigits H ++ [10]) := ⟨_, rfl⟩
  have r1 : ∀ w, (Op.stringOp .add { data := #[80, 49, 10] } (str (Lib.decDigits W))).run Tryd.prog w = .ok (.string S1) w := fun w => by rw [hS1]; exact str_add w [80, 49, 10] _ (by show 3 ≤ 8388608; omega) (by omega)
  have r2 : ∀ w, (Op.stringOp .add S1 { data := #[32] }).run Tryd.prog w = .ok (.string S2) w := fun w => by rw [hS1, hS2]; exact str_add w _ [32] (by simp; omega) (by show 1 ≤ 8388608; omega)
  have r3 : ∀ w, (Op.stringOp .add S2 (str (Lib.decDigits H))).run Tryd.prog w = .ok (.string S3) w := fun w => by rw [hS2, hS3]; exact str_add w _ _ (by simp; omega) (by omega)
  have r4 : ∀ w, (Op.stringOp .add S3 { data := #[10] }).run Tryd.prog w = .ok (.string S5) w := fun w => by rw [hS3, hS5]; exact str_add w _ [10] (by simp; omega) (by show 1 ≤ 8388608; omega)
  have HS5 : Hid (S5.data.toList.map UInt8.toNat = headS 49 W H ∧ S5.size = (headS 49 W H).length ∧ S5.size ≤ 4194304) := by
    have e : S5.data.toList.map UInt8.toNat = headS 49 W H := by rw [hS5]; exact head_bytes 49 W H
    have e2 : S5.size = (headS 49 W H).length := by rw [← e, List.length_map]; rfl
    refine ⟨e, e2, ?_⟩
    rw [hS5, str_size]; simp; omega
  have z1 : S1.size ≤ 4194304 := by rw [hS1, str_size]; simp; omega
  have z2 : S2.size ≤ 4194304 := by rw [hS2, str_size]; simp; omega
  have z3 : S3.size ≤ 4194304 := by rw [hS3, str_size]; simp; omega
  clear hS1 hS2 hS3 hS5
  obtain ⟨c0, c1, c2, cf⟩ := cell_of_three HB1.out
  go_enter Tryd.func9, Tryd.ntmps9
  go_wp2_with fail
  refine Calls.mono (HMY.out _ HF1.out) ?_
  rintro e w2 ⟨rfl, hf2⟩
  have HF2 : Hid (Fr (fun _ => False) w w2) := HF1.out.trans hf2 (fun _ _ h => h)
  have HB2 : Hid (w2.heap[w.heap.size]? = some (.cells #[.int .i64 (W : Int), .int .i64 (H : Int), .slice ao n cap] 25 (0, 0))) := by show _ = _; rw [hf2.block _ (lt_of_block HB1.out) (fun h => h)]; exact HB1.out
  clear hf2 c0 c1 c2 cf
  obtain ⟨B, hB⟩ : ∃ B, B = w.heap.size := ⟨_, rfl⟩
  rw [← hB] at HB2 ⊢
  clear hB HF1 HB1
  have HBX : Hid (∀ w', Fr (fun _ => False) w2 w' → w'.cell? ⟨B, 0, none⟩ = some (.int .i64 (W : Int)) ∧ w'.cell? ⟨B, 1, none⟩ = some (.int .i64 (H : Int)) ∧ w'.cell? ⟨B, 2, none⟩ = some (.slice ao n cap) ∧ Seen w' (.slice ao n cap) (render W H P)) := fun w' f => by
    have h1 : w'.heap[B]? = _ := (f.block _ (lt_of_block HB2.out) (fun h => h)).trans HB2.out
    obtain ⟨c0, c1, c2, _⟩ := cell_of_three h1
    exact ⟨c0, c1, c2, HV.out.kept (HF2.out.trans f (fun _ _ h => h))⟩
  have HKK : Hid (∀ w', Fr (fun _ => False) w2 w' → w'.cell? ⟨B, 0, none⟩ = some (.int .i64 (W : Int)) ∧ w'.cell? ⟨B, 1, none⟩ = some (.int .i64 (H : Int))) := fun w' f => ⟨(HBX.out w' f).1, (HBX.out w' f).2.1⟩
  go_upto_region 8 with (fail)
  refine wp_region_held_drew (S := (fun w' => w'.cell? ⟨B, 0, none⟩ = some (.int .i64 (W : Int)) ∧ w'.cell? ⟨B, 1, none⟩ = some (.int .i64 (H : Int)))) (by kernel_rfl) (HKK.out _ (Fr.refl _ _).drew) (fun hHeld => ?_)
  refine wpAnyH_take (i := 0) (oi := _) (v := ?vv0) rfl (by kernel_rfl) (by kernel_rfl) (by kernel_rfl) (fun _ _ _ h => h) (Or.inl ⟨by kernel_rfl, ?hy0⟩) (by assumption) ?_
  case hy0 => (intro w hSw; (try dsimp only at hSw); obtain ⟨q0, q1⟩ := hSw; go_simp; all_goals (with_reducible rfl))
  (try simp only [Act.put, List.setIfInBounds_toArray, List.set_cons_zero, List.set_cons_succ])
  refine wpAnyH_take (i := 1) (oi := _) (v := ?vv1) rfl (by kernel_rfl) (by kernel_rfl) (by kernel_rfl) (fun _ _ _ h => h) (Or.inl ⟨by kernel_rfl, ?hy1⟩) (by assumption) ?_
  case hy1 => (intro w hSw; (try dsimp only at hSw); obtain ⟨q0, q1⟩ := hSw; go_simp; all_goals (with_reducible rfl))
  (try simp only [Act.put, List.setIfInBounds_toArray, List.set_cons_zero, List.set_cons_succ])
  refine wpAnyH_take (i := 2) (oi := _) (v := ?vv2) rfl (by kernel_rfl) (by kernel_rfl) (by kernel_rfl) (fun _ _ _ h => h) (Or.inl ⟨by kernel_rfl, ?hy2⟩) (by assumption) ?_
  case hy2 => (intro w hSw; (try dsimp only at hSw); obtain ⟨q0, q1⟩ := hSw; go_simp; all_goals (with_reducible rfl))
  (try simp only [Act.put, List.setIfInBounds_toArray, List.set_cons_zero, List.set_cons_succ])
  refine wpAnyH_take (i := 6) (oi := _) (v := ?vv6) rfl (by kernel_rfl) (by kernel_rfl) (by kernel_rfl) (fun _ _ _ h => h) (Or.inl ⟨by kernel_rfl, ?hy6⟩) (by assumption) ?_
  case hy6 => (intro w hSw; (try dsimp only at hSw); obtain ⟨q0, q1⟩ := hSw; go_simp; all_goals (with_reducible rfl))
  (try simp only [Act.put, List.setIfInBounds_toArray, List.set_cons_zero, List.set_cons_succ])
  refine wpAnyH_take (i := 7) (oi := _) (v := ?vv7) rfl (by kernel_rfl) (by kernel_rfl) (by kernel_rfl) (fun _ _ _ h => h) (Or.inl ⟨by kernel_rfl, ?hy7⟩) (by assumption) ?_
  case hy7 => (intro w hSw; (try dsimp only at hSw); obtain ⟨q0, q1⟩ := hSw; go_simp; all_goals (with_reducible rfl))
  (try simp only [Act.put, List.setIfInBounds_toArray, List.set_cons_zero, List.set_cons_succ])
  refine wpAnyH_ready (rs := [3]) (by kernel_rfl) (by simp) ?_
  refine AllReadyH.cons (o := _) rfl (fun C hC => ?_) AllReadyH.nil
  go_simp
  refine Calls.mono (refNumber_any W HK1.out.1 _) ?_
  rintro e w6 ⟨rfl, hfw6⟩
  have HFw6 : Hid (Fr (fun _ => False) w2 w6) := ((Fr.refl (fun _ => False) w2).drew).trans hfw6 (fun _ _ h => h)
  clear hfw6
  go_simp
  refine hC.out _ _ (HKK.out _ HFw6.out) (fun hHeld => ?_)
  clear hC C
  (try simp only [Act.put, List.setIfInBounds_toArray, List.set_cons_zero, List.set_cons_succ])
  refine wpAnyH_take (i := 4) (oi := _) (v := ?vv4) rfl (by kernel_rfl) (by kernel_rfl) (by kernel_rfl) (fun _ _ _ h => h) (Or.inl ⟨by kernel_rfl, ?hy4⟩) (by assumption) ?_
  case hy4 => (intro w hSw; (try dsimp only at hSw); obtain ⟨q0, q1⟩ := hSw; go_simp; all_goals (with_reducible rfl))
  (try simp only [Act.put, List.setIfInBounds_toArray, List.set_cons_zero, List.set_cons_succ])
  refine wpAnyH_take (i := 5) (oi := _) (v := ?vv5) rfl (by kernel_rfl) (by kernel_rfl) (by kernel_rfl) (fun _ _ _ h => h) (Or.inl ⟨by kernel_rfl, ?hy5⟩) (by assumption) ?_
  case hy5 => (intro w hSw; (try dsimp only at hSw); obtain ⟨q0, q1⟩ := hSw; go_simp; all_goals (with_reducible rfl))
  (try simp only [Act.put, List.setIfInBounds_toArray, List.set_cons_zero, List.set_cons_succ])
  refine wpAnyH_ready (rs := [8]) (by kernel_rfl) (by simp) ?_
  refine AllReadyH.cons (o := _) rfl (fun C hC => ?_) AllReadyH.nil
  go_simp
  refine Calls.mono (refNumber_any H HK1.out.2 _) ?_
  rintro e w7 ⟨rfl, hfw7⟩
  have HFw7 : Hid (Fr (fun _ => False) w2 w7) := HFw6.out.trans hfw7 (fun _ _ h => h)
  clear hfw7
  go_simp
  refine hC.out _ _ (HKK.out _ HFw7.out) (fun hHeld => ?_)
  clear hC C
  (try simp only [Act.put, List.setIfInBounds_toArray, List.set_cons_zero, List.set_cons_succ])
  refine wpAnyH_take (i := 9) (oi := _) (v := ?vv9) rfl (by kernel_rfl) (by kernel_rfl) (by kernel_rfl) (fun _ _ _ h => h) (Or.inl ⟨by kernel_rfl, ?hy9⟩) (by assumption) ?_
  case hy9 => (intro w hSw; (try dsimp only at hSw); obtain ⟨q0, q1⟩ := hSw; go_simp; all_goals (with_reducible rfl))
  (try simp only [Act.put, List.setIfInBounds_toArray, List.set_cons_zero, List.set_cons_succ])
  refine wpAnyH_take (i := 10) (oi := _) (v := ?vv10) rfl (by kernel_rfl) (by kernel_rfl) (by kernel_rfl) (fun _ _ _ h => h) (Or.inl ⟨by kernel_rfl, ?hy10⟩) (by assumption) ?_
  case hy10 => (intro w hSw; (try dsimp only at hSw); obtain ⟨q0, q1⟩ := hSw; go_simp; all_goals (with_reducible rfl))
  (try simp only [Act.put, List.setIfInBounds_toArray, List.set_cons_zero, List.set_cons_succ])
  refine wpAnyH_ready (rs := [11]) (by kernel_rfl) (by simp) ?_
  refine AllReadyH.cons (o := _) rfl (fun C hC => ?_) AllReadyH.nil
  go_simp
  have HSZ5 : Hid (S5.size = (headS 49 W H).length) := HS5.out.2.1
  have hr := RowM.of_string w7 S5 (grownCap w7 S5.size 0 5) 1 (grownCap_ge _ _ _ _) (grownCap_le_maxLen _ _ _ _ (by have := HS5.out.2.2; unfold maxLen; omega))
  rw [HS5.out.1] at hr
  have HF8 : Hid (Fr (fun _ => False) w2 (w7.alloc (.cells (bytesRow S5 (grownCap w7 S5.size 0 5)) 5 ((bytesRow S5 (grownCap w7 S5.size 0 5)).size, (bytesRow S5 (grownCap w7 S5.size 0 5)).size + 1))).drew) := (HFw7.out.alloc _).drew
  have HR8 : Hid (RowM (w7.alloc (.cells (bytesRow S5 (grownCap w7 S5.size 0 5)) 5 ((bytesRow S5 (grownCap w7 S5.size 0 5)).size, (bytesRow S5 (grownCap w7 S5.size 0 5)).size + 1))).drew w7.heap.size (grownCap w7 S5.size 0 5) (headS 49 W H)) := hr.kept ((Fr.refl (fun _ => False) _).drew) (fun h => h)
  have HG8 : Hid (w2.heap.size ≤ w7.heap.size) := HFw7.out.size
  clear hr
  generalize (w7.alloc (.cells (bytesRow S5 (grownCap w7 S5.size 0 5)) 5 ((bytesRow S5 (grownCap w7 S5.size 0 5)).size, (bytesRow S5 (grownCap w7 S5.size 0 5)).size + 1))).drew = w8 at *
  generalize grownCap w7 S5.size 0 5 = cp at *
  refine hC.out _ _ (HKK.out _ HF8.out) (fun hHeld => ?_)
  clear hC C
  (try simp only [Act.put, List.setIfInBounds_toArray, List.set_cons_zero, List.set_cons_succ])
  refine wpAnyH_ready (rs := [12]) (by kernel_rfl) (by simp) ?_
  refine AllReadyH.cons (o := _) rfl (fun C hC => ?_) AllReadyH.nil
  go_simp
  refine hC.out _ _ hHeld (fun hHeld => ?_)
  clear hC C
  refine wpAnyH_done (by kernel_rfl) ?_ _
  clear r1 r2 r3 r4 z1 z2 z3 lenW lenH hHeld HKK HFw6 HFw7 HMY HB2
  have HG9 : Hid (Gw w2 w8 (.slice (some ⟨w7.heap.size, 0, none⟩) S5.size cp) (LT (headS 49 W H) W P 0 0)) := ⟨⟨w7.heap.size, cp, by rw [HSZ5.out]; unfold LT; simp [txtT], by unfold LT; simpa [txtT] using HR8.out, HG8.out⟩, HF8.out⟩
  clear HR8 HG8 HF8 HS5
  go_wp2_with fail
  go_loopg [7, 8] H (fun q v i wr => ∃ y : Nat, y + q = H ∧ i = .int .i64 y ∧ Gw w2 wr v (LT (headS 49 W H) W P y 0))
  case atStart => exact ⟨0, by omega, rfl, HG9.out⟩
  case round =>
    clear HG9 HSZ5
    obtain ⟨y, hyq, rfl, hgro⟩ := hrel
    have HGR : Hid (Gw w2 wr u7 (LT (headS 49 W H) W P y 0)) := hgro
    obtain ⟨c0, c1, c2, _⟩ := HBX.out wr hgro.fr
    clear hgro
    by_cases hyH : y < H
    · have hdy : decide (y < H) = true := decide_eq_true hyH
      go_wp2_with fail
      go_loopg [7, 9] W (fun q v i wr => ∃ x : Nat, x + q = W ∧ i = .int .i64 x ∧ Gw w2 wr v (LT (headS 49 W H) W P y x))
      case atStart => exact ⟨0, by omega, rfl, HGR.out⟩
      case round =>
        clear HGR c0 c1 c2
        obtain ⟨x, hxq, rfl, hgro⟩ := hrel
        obtain ⟨⟨gx, cx, rfl, hrx, hgx⟩, hfx⟩ := hgro
        have HRX : Hid (RowM wr gx cx (LT (headS 49 W H) W P y x)) := hrx
        have HGX : Hid (w2.heap.size ≤ gx) := hgx
        have HFX : Hid (Fr (fun _ => False) w2 wr) := hfx
        clear hrx hgx hfx
        obtain ⟨c0, c1, c2, _⟩ := HBX.out wr HFX.out
        by_cases hxW : x < W
        · have hdx : decide (x < W) = true := decide_eq_true hxW
          have HLL : Hid ((LT (headS 49 W H) W P y x).length + 2 ≤ 8388608) := by
            have h3 : (y + 1) * W ≤ H * W := Nat.mul_le_mul_right _ hyH
            rw [Nat.add_mul, Nat.mul_comm H, Nat.mul_comm y] at h3
            have := HSZ.out.2.2
            have := LT_len (headS 49 W H) W P y x
            have := head_len 49 W H HK1.out.1 HK1.out.2
            show _ ≤ _
            omega
          obtain ⟨m, hm⟩ : ∃ m, m = (LT (headS 49 W H) W P y x).length := ⟨_, rfl⟩
          have HN : Hid (m = (LT (headS 49 W H) W P y x).length) := hm
          rw [← hm]
          clear hm
          obtain ⟨bt, hbt⟩ : ∃ bt, bt = (P x y).toNat := ⟨_, rfl⟩
          have HBT : Hid (bt = (P x y).toNat) := hbt
          have hbt1 : bt ≤ 1 := by rw [hbt]; cases P x y <;> simp
          go_wp2_with fail
          refine (zget_in W H (.slice ao n cap) P x y wr (HBX.out _ HFX.out).2.2.2 HSZ.out.1 HSZ.out.2.1 HSZ.out.2.2 hxW hyH).mono ?_
          rintro e w3 ⟨rfl, hf3⟩
          rw [← hbt]
          clear hbt c0 c1 c2
          have HF3 : Hid (Fr (fun _ => False) w2 w3) := HFX.out.trans hf3 (fun _ _ h => h)
          have HR3 : Hid (RowM w3 gx cx (LT (headS 49 W H) W P y x)) := HRX.out.kept hf3 (fun h => h)
          clear hf3 HRX HFX
          have e48 : 48 + (bt : Int) = ((48 + bt : Nat) : Int) := by push_cast; rfl
          obtain ⟨c48, hc48⟩ : ∃ c48, c48 = 48 + bt := ⟨_, rfl⟩
          rw [← hc48] at e48
          have hc256 : c48 < 256 := by omega
          have HC48 : Hid (c48 = dgt (P x y)) := by show _ = _; rw [hc48, HBT.out]; rfl
          clear hc48
          go_wp2_with (first | (at_builtin; refine wpList_append_m _ rfl _ _ 27 rfl i0 Tryd.underlying27 hi hz0 hz1 hz2 gx cx m (LT (headS 49 W H) W P y x) HN.out rfl (HR3.out.kept ((Fr.refl (fun _ => False) w3).alloc _) (fun h => h)) _ 1 1 [c48] rfl rfl (by decide) one_cells (by have := HLL.out; omega) ?_))
          intro g4 c4 w4 hr4 hf4 hg4
          have HG4 : Hid (Gw w2 w4 (.slice (some ⟨g4, 0, none⟩) (m + 1) c4) (LT (headS 49 W H) W P y x ++ [c48])) := Gw.grow (HF3.out.alloc _) HGX.out hr4 hf4 (by simpa using hg4) (by rw [HN.out]; simp)
          have HR4 : Hid (RowM w4 g4 c4 (LT (headS 49 W H) W P y x ++ [c48])) := hr4
          obtain ⟨c0, c1, c2, _⟩ := HBX.out w4 HG4.out.fr
          clear hr4 hf4 hg4
          by_cases hx64 : x % 64 = 63
          · have d2 : ((x : Int) % 64 == 63) = true := by simp; omega
            go_wp2_with (first | (at_builtin; refine wpList_append_m _ rfl _ _ 27 rfl i0 Tryd.underlying27 hi hz0 hz1 hz2 g4 c4 (m + 1) (LT (headS 49 W H) W P y x ++ [c48]) (by rw [HN.out]; simp) rfl (HR4.out.kept ((Fr.refl (fun _ => False) w4).alloc _) (fun h => h)) _ 1 1 [10] rfl rfl (by decide) one_cells (by have := HLL.out; simp; omega) ?_))
            intro g5 c5 w5 hr5 hf5 hg5
            have hcell : LT (headS 49 W H) W P y x ++ [c48, 10] = LT (headS 49 W H) W P y (x + 1) := by
              rw [LT_succ, HC48.out]; unfold cellT; rw [if_pos (Or.inr hx64)]
            rw [hcell] at hr5
            have HG5 : Hid (Gw w2 w5 (.slice (some ⟨g5, 0, none⟩) (m + 1 + 1) c5) (LT (headS 49 W H) W P y (x + 1))) := by
              obtain ⟨⟨gy, cy, e1, _, h4⟩, h5⟩ := HG4.out
              simp only [Value.slice.injEq, Option.some.injEq, Addr.mk.injEq] at e1
              obtain ⟨⟨e2, _⟩, _⟩ := e1
              refine Gw.grow (h5.alloc _) (by rw [← e2] at h4; exact h4) hr5 hf5 (by simpa using hg5) (by rw [← hcell, HN.out]; simp)
            clear hr5 hf5 hg5 hcell
            go_wp2_with fail
            go_roundg (W - (x + 1))
            case measure => omega
            case rel => exact ⟨x + 1, by omega, congrArg (Value.int .i64) (by omega), HG5.out⟩
          · have d2 : ((x : Int) % 64 == 63) = false := by simp; omega
            by_cases hxl : x + 1 = W
            · have d1 : ((x : Int) == (W : Int) - 1) = true := by simp; omega
              go_wp2_with (first | (at_builtin; refine wpList_append_m _ rfl _ _ 27 rfl i0 Tryd.underlying27 hi hz0 hz1 hz2 g4 c4 (m + 1) (LT (headS 49 W H) W P y x ++ [c48]) (by rw [HN.out]; simp) rfl (HR4.out.kept ((Fr.refl (fun _ => False) w4).alloc _) (fun h => h)) _ 1 1 [10] rfl rfl (by decide) one_cells (by have := HLL.out; simp; omega) ?_))
              intro g5 c5 w5 hr5 hf5 hg5
              have hcell : LT (headS 49 W H) W P y x ++ [c48, 10] = LT (headS 49 W H) W P y (x + 1) := by
                rw [LT_succ, HC48.out]; unfold cellT; rw [if_pos (Or.inl hxl)]
              rw [hcell] at hr5
              have HG5 : Hid (Gw w2 w5 (.slice (some ⟨g5, 0, none⟩) (m + 1 + 1) c5) (LT (headS 49 W H) W P y (x + 1))) := by
                obtain ⟨⟨gy, cy, e1, _, h4⟩, h5⟩ := HG4.out
                simp only [Value.slice.injEq, Option.some.injEq, Addr.mk.injEq] at e1
                obtain ⟨⟨e2, _⟩, _⟩ := e1
                refine Gw.grow (h5.alloc _) (by rw [← e2] at h4; exact h4) hr5 hf5 (by simpa using hg5) (by rw [← hcell, HN.out]; simp)
              clear hr5 hf5 hg5 hcell
              go_wp2_with fail
              go_roundg (W - (x + 1))
              case measure => omega
              case rel => exact ⟨x + 1, by omega, congrArg (Value.int .i64) (by omega), HG5.out⟩
            · have d1 : ((x : Int) == (W : Int) - 1) = false := by simp; omega
              have HG5 : Hid (Gw w2 w4 (.slice (some ⟨g4, 0, none⟩) (m + 1) c4) (LT (headS 49 W H) W P y (x + 1))) := by
                rw [LT_succ]
                unfold cellT
                rw [if_neg (by rintro (h | h); · exact hxl h
                               · exact hx64 h), ← HC48.out]
                exact HG4.out
              go_wp2_with fail
              go_roundg (W - (x + 1))
              case measure => omega
              case rel => exact ⟨x + 1, by omega, congrArg (Value.int .i64) (by omega), HG5.out⟩
        · have hdx : decide (x < W) = false := decide_eq_false hxW
          have hxE : x = W := by omega
          have HG5 : Hid (Gw w2 wr (.slice (some ⟨gx, 0, none⟩) (LT (headS 49 W H) W P y x).length cx) (LT (headS 49 W H) W P (y + 1) 0)) := by
            have h0 : Gw w2 wr (.slice (some ⟨gx, 0, none⟩) (LT (headS 49 W H) W P y x).length cx) (LT (headS 49 W H) W P y x) := ⟨⟨gx, cx, rfl, HRX.out, HGX.out⟩, HFX.out⟩
            rw [← LT_row]
            have h1 : LT (headS 49 W H) W P y W = LT (headS 49 W H) W P y x := by rw [hxE]
            rw [h1]; exact h0
          clear hxE
          go_wp2_with fail
          go_roundg (H - (y + 1))
          case measure => omega
          case rel => exact ⟨y + 1, by omega, congrArg (Value.int .i64) (by omega), HG5.out⟩
    · have hdy : decide (y < H) = false := decide_eq_false hyH
      have hyE : y = H := by omega
      have HG6 : Hid (Gw w2 wr u7 (headS 49 W H ++ txtT W H P)) := by have h := HGR.out; rw [hyE, LT_zero] at h; exact h
      clear hyE
      go_wp2_with fail
      go_ret2
      obtain ⟨⟨gx, cx, e, hrx, hgx⟩, hfx⟩ := HG6.out
      exact ⟨HF2.out.trans hfx (fun _ _ h => h), _, rfl, gx, cx, e, hrx, Nat.le_trans HF2.out.size hgx⟩
end Go.Proofs.YtpfajkkjnobdlaaDoor
