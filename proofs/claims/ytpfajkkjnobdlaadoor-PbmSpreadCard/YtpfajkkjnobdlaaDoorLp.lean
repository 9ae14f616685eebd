/- Law 'Spread'. -/
import Derived.Test.YtpfajkkjnobdlaaDoorSr
namespace Go.Proofs.YtpfajkkjnobdlaaDoor
set_option maxRecDepth 100000
open Go.RowKit

theorem within_any (i : Int) (n : Nat) (w : World) (hi : -9223372036854775808 ≤ i ∧ i ≤ 9223372036854775807) (h1 : 1 ≤ n) (h2 : n ≤ 1048576) :
    Calls Tryd.prog 22 #[.int .i64 i, .int .i64 n] w fun e w' => e = .returned (.int .i64 (i % (n : Int))) ∧ w' = w := by
  obtain ⟨hi1, hi2⟩ := hi
  have hpos : 0 < (n : Int) := by omega
  have hm1 := Int.emod_nonneg i (show (n : Int) ≠ 0 by omega)
  have hm2 := Int.emod_lt_of_pos i hpos
  have ht := Int.mul_tdiv_add_tmod i n
  have hb : -(n : Int) < i.tmod n ∧ i.tmod n < n := by
    rcases Int.le_total 0 i with h | h
    · rw [Int.tmod_eq_emod_of_nonneg h]; omega
    · have e : i.tmod n = -((-i) % n) := by
        rw [← Int.tmod_eq_emod_of_nonneg (show 0 ≤ -i by omega), Int.neg_tmod]; omega
      have a1 := Int.emod_nonneg (-i) (show (n : Int) ≠ 0 by omega)
      have a2 := Int.emod_lt_of_pos (-i) hpos
      omega
  have key : ∀ r : Int, 0 ≤ r → r < n → (∃ q : Int, i = n * q + r) → i % n = r := by
    rintro r h0 h1 ⟨q, rfl⟩
    rw [Int.mul_add_emod_self_left, Int.emod_eq_of_lt h0 h1]
  by_cases h0 : Int.tmod i n < 0
  · have e := key (i.tmod n + n) (by omega) (by omega) ⟨i.tdiv n - 1, by rw [Int.mul_sub]; omega⟩
    rw [e]
    clear e key ht hm1 hm2
    have hd : decide (i.tmod n < 0) = true := decide_eq_true h0
    go_enter Tryd.func22, Tryd.ntmps22
    go_wp2
    all_goals first
      | (go_ret; exact ⟨congrArg (fun x => Ending.returned (Value.int .i64 x)) (by first | rfl | omega | (unfold wrap64; omega)), rfl⟩)
      | (exfalso; omega)
  · have e := key (i.tmod n) (by omega) (by omega) ⟨i.tdiv n, by omega⟩
    rw [e]
    clear e key ht hm1 hm2
    have hd : decide (i.tmod n < 0) = false := decide_eq_false h0
    go_enter Tryd.func22, Tryd.ntmps22
    go_wp2
    all_goals first
      | (go_ret; exact ⟨rfl, rfl⟩)
      | (exfalso; omega)

theorem cell_of_fourx {w : World} {b : Nat} {x y z u : Value} {t : TypeId} (h : w.heap[b]? = some (.cells #[x, y, z, u] t (0, 0))) :
    w.cell? ⟨b, 0, none⟩ = some x ∧ w.cell? ⟨b, 1, none⟩ = some y ∧ w.cell? ⟨b, 2, none⟩ = some z ∧ w.cell? ⟨b, 3, none⟩ = some u := by
  refine ⟨?_, ?_, ?_, ?_⟩ <;> simp [World.cell?, h]

set_option linter.unusedSimpArgs false in
set_option maxHeartbeats 4000000 in
theorem spread_any (x y : Int) (v : Value) (l : List Nat) (bo : Option Addr) (nb cb : Nat) (Y : Nat → Int) (w : World) (hx : -9223372036854775808 ≤ x ∧ x ≤ 9223372036854775807) (hy : -9223372036854775808 ≤ y ∧ y ≤ 9223372036854775807) (hv : Seen w v l) (hlt : ∀ j : Nat, l[j]?.getD 0 < 18446744073709551616) (hnb : nb ≤ 9223372036854775807)
    (hby : 0 < nb → ∃ bb off, bo = some ⟨bb, off, none⟩ ∧ ∀ j, j < nb → w.cell? ⟨bb, off + j, none⟩ = some (.int .i64 (Y j)) ∧ -9223372036854775808 ≤ Y j ∧ Y j ≤ 9223372036854775807) (ht : TabAt w) :
    Calls Tryd.prog 6 #[.agg #[.int .i64 x, .int .i64 y, v, .slice bo nb cb]] w fun e w' => e = .returned (.bool true) ∧ Fr (fun _ => False) w w' := by
  have HV : Hid (Seen w v l) := hv
  have HLT : Hid (∀ j : Nat, l[j]?.getD 0 < 18446744073709551616) := hlt
  have HT : Hid (TabAt w) := ht
  have HBY : Hid (0 < nb → ∃ bb off, bo = some ⟨bb, off, none⟩ ∧ ∀ j, j < nb → w.cell? ⟨bb, off + j, none⟩ = some (.int .i64 (Y j)) ∧ -9223372036854775808 ≤ Y j ∧ Y j ≤ 9223372036854775807) := hby
  have HXY : Hid ((-9223372036854775808 ≤ x ∧ x ≤ 9223372036854775807) ∧ (-9223372036854775808 ≤ y ∧ y ≤ 9223372036854775807)) := ⟨hx, hy⟩
  obtain ⟨ao, cap, rfl, hll, _⟩ := hv
  have HF1 : Hid (Fr (fun _ => False) w (w.alloc (.cells #[.int .i64 x, .int .i64 y, .slice ao l.length cap, .slice bo nb cb] 44))) := (Fr.refl _ w).alloc _
  have HB1 : Hid ((w.alloc (.cells #[.int .i64 x, .int .i64 y, .slice ao l.length cap, .slice bo nb cb] 44)).heap[w.heap.size]? = some (.cells #[.int .i64 x, .int .i64 y, .slice ao l.length cap, .slice bo nb cb] 44 (0, 0))) := heap_alloc_new w _
  clear hlt ht hx hy hby
  obtain ⟨n, hn⟩ : ∃ n, n = l.length := ⟨_, rfl⟩
  have HN : Hid (n = l.length) := hn
  rw [← hn] at hll HF1 HB1 HV ⊢
  clear hn
  go_enter Tryd.func6, Tryd.ntmps6
  go_upto_region 1 with (fail)
  generalize (w.alloc (.cells #[.int .i64 x, .int .i64 y, .slice ao n cap, .slice bo nb cb] 44)) = w1 at *
  obtain ⟨B, hB⟩ : ∃ B, B = w.heap.size := ⟨_, rfl⟩
  rw [← hB] at HB1 ⊢
  have HB : Hid (B = w.heap.size) := hB
  clear hB
  have HBW : Hid (∀ w', Fr (fun _ => False) w1 w' → w'.cell? ⟨B, 0, none⟩ = some (.int .i64 x) ∧ w'.cell? ⟨B, 1, none⟩ = some (.int .i64 y) ∧ w'.cell? ⟨B, 2, none⟩ = some (.slice ao n cap) ∧ w'.cell? ⟨B, 3, none⟩ = some (.slice bo nb cb) ∧ Seen w' (.slice ao n cap) l ∧ TabAt w') := fun w' f => by
    have h1 : w'.heap[B]? = _ := (f.block _ (lt_of_block HB1.out) (fun h => h)).trans HB1.out
    obtain ⟨c0, c1, c2, c3⟩ := cell_of_fourx h1
    exact ⟨c0, c1, c2, c3, HV.out.kept (HF1.out.trans f (fun _ _ h => h)), HT.out.kept (HF1.out.trans f (fun _ _ h => h))⟩
  obtain ⟨c0, c1, c2, c3, hs1, _⟩ := HBW.out w1 (Fr.refl _ _)
  have HS1 : Hid (Seen w1 (.slice ao n cap) l) := hs1
  clear hs1
  go_wp2_with fail
  refine Calls.mono (may_any x y (.slice ao n cap) l w1 HXY.out.1 HXY.out.2 HS1.out HLT.out) ?_
  rintro e w2 ⟨rfl, hf2⟩
  have HF2 : Hid (Fr (fun _ => False) w1 w2) := hf2
  clear hf2 c0 c1 c2 c3 HS1
  obtain ⟨c0, c1, c2, c3, _⟩ := HBW.out w2 HF2.out
  have wake : ∀ w', Fr (fun _ => False) w1 w' → Calls Tryd.prog 12 #[] w' fun e w'' => e = .returned (.bool true) ∧ Fr (fun _ => False) w w'' := fun w' f => by
    refine Calls.mono (wakes_any w' (HBW.out w' f).2.2.2.2.2) ?_
    rintro e w3 ⟨rfl, hf3⟩
    exact ⟨rfl, (HF1.out.trans f (fun _ _ h => h)).trans hf3 (fun _ _ h => h)⟩
  have HWK : Hid (∀ w', Fr (fun _ => False) w1 w' → Calls Tryd.prog 12 #[] w' fun e w'' => e = .returned (.bool true) ∧ Fr (fun _ => False) w w'') := wake
  clear wake
  cases hvb : validB x y l
  · go_wp2_with fail
    refine Calls.mono (HWK.out w2 HF2.out) ?_
    rintro e w3 ⟨rfl, hf3⟩
    go_wp2_with fail
    go_ret
    exact ⟨rfl, hf3⟩
  · have HVB : Hid (validB x y l = true) := hvb
    obtain ⟨W, H, rfl, rfl, k1, k2, z1, z2, z3⟩ := valid_size hvb
    have HSZ : Hid (sizeS W H = true) := sizeS_iff.2 ⟨z1, z2, z3⟩
    obtain ⟨A, hA⟩ : ∃ A : Nat, A = W * H := ⟨_, rfl⟩
    have HA : Hid (A = W * H) := hA
    have hm1 : (W : Int) * (H : Int) = (A : Int) := by rw [hA]; push_cast; rfl
    have hA2 : A ≤ 1048576 := by rw [hA]; exact z3
    clear hvb z3 hA
    by_cases h3000 : A ≤ 3000
    rotate_left
    · have hd : (3000 : Int) < (A : Int) := by omega
      go_wp2_with fail
      refine Calls.mono (HWK.out w2 HF2.out) ?_
      rintro e w3 ⟨rfl, hf3⟩
      go_wp2_with fail
      go_ret
      exact ⟨rfl, hf3⟩
    · have hd : ¬ (3000 : Int) < (A : Int) := by omega
      go_wp2_with fail
      have HF3 : Hid (Fr (fun _ => False) w1 (w2.alloc (.cells #[.int .i64 (W : Int), .int .i64 (H : Int), .slice ao n cap] 25))) := HF2.out.alloc _
      have HSM : Hid (∀ i, i < 1 → ∃ ao' l' c', (w2.alloc (.cells #[.int .i64 (W : Int), .int .i64 (H : Int), .slice ao n cap] 25)).cell? ⟨w2.heap.size, 0 + i * 3 + 2, none⟩ = some (.slice ao' l' c')) := fun i hi => by
        have hi0 : i = 0 := by omega
        subst hi0
        obtain ⟨_, _, k2, _⟩ := cell_of_three (heap_alloc_new w2 (.cells #[.int .i64 (W : Int), .int .i64 (H : Int), .slice ao n cap] 25))
        exact ⟨ao, n, cap, k2⟩
      generalize (w2.alloc (.cells #[.int .i64 (W : Int), .int .i64 (H : Int), .slice ao n cap] 25)) = w3 at *
      refine Calls.mono (small_any w2.heap.size 0 1 1 60000 w3 (by omega) HSM.out) ?_
      rintro e w4 ⟨bb, rfl, q, hw4⟩
      have HF4 : Hid (Fr (fun _ => False) w1 w4) := by rw [hw4]; exact HF3.out.drewN q
      clear hw4 HSM HF3 c0 c1 c2 c3
      cases bb
      · go_wp2_with fail
        refine Calls.mono (HWK.out w4 HF4.out) ?_
        rintro e w5 ⟨rfl, hf5⟩
        go_wp2_with fail
        go_ret
        exact ⟨rfl, hf5⟩
      · go_upto_region 4 with (fail)
        have HF5 : Hid (Fr (fun _ => False) w1 (w4.alloc (.cells #[.string { data := #[] }, .string { data := #[32] }, .string { data := #[10] }, .string { data := #[9, 13] }, .string { data := #[35, 49, 32, 48, 10] }, .string { data := #[32, 35, 32, 120, 35, 10, 35, 10] }, .string { data := #[11, 12] }] 9))) := HF4.out.alloc _
        have HB5 := heap_alloc_new w4 (.cells #[.string { data := #[] }, .string { data := #[32] }, .string { data := #[10] }, .string { data := #[9, 13] }, .string { data := #[35, 49, 32, 48, 10] }, .string { data := #[32, 35, 32, 120, 35, 10, 35, 10] }, .string { data := #[11, 12] }] 9)
        generalize (w4.alloc (.cells #[.string { data := #[] }, .string { data := #[32] }, .string { data := #[10] }, .string { data := #[9, 13] }, .string { data := #[35, 49, 32, 48, 10] }, .string { data := #[32, 35, 32, 120, 35, 10, 35, 10] }, .string { data := #[11, 12] }] 9)) = w5 at *
        obtain ⟨Bt, hBt⟩ : ∃ Bt, Bt = w4.heap.size := ⟨_, rfl⟩
        rw [← hBt] at HB5 ⊢
        clear hBt
        have HBS : Hid (∀ w', Fr (fun _ => False) w5 w' → ∀ k, k < 7 → w'.cell? ⟨Bt, k, none⟩ = some (.string (str (btL k)))) := fun w' f k hk => by
          have h1 : w'.heap[Bt]? = _ := (f.block _ (lt_of_block HB5) (fun h => h)).trans HB5
          rcases (by omega : k = 0 ∨ k = 1 ∨ k = 2 ∨ k = 3 ∨ k = 4 ∨ k = 5 ∨ k = 6) with rfl | rfl | rfl | rfl | rfl | rfl | rfl <;> simp [World.cell?, h1, btL, str]
        clear HB5
        obtain ⟨S1, hS1⟩ : ∃ S1, S1 = str ([80, 49, 32, 35, 80, 52, 32, 57, 32, 57, 10] ++ Lib.decDigits W) := ⟨_, rfl⟩
        obtain ⟨S2, hS2⟩ : ∃ S2, S2 = str ([80, 49, 32, 35, 80, 52, 32, 57, 32, 57, 10] ++ Lib.decDigits W ++ [10]) := ⟨_, rfl⟩
        obtain ⟨S3, hS3⟩ : ∃ S3, S3 = str ([80, 49, 32, 35, 80, 52, 32, 57, 32, 57, 10] ++ Lib.decDigits W ++ [10] ++ Lib.decDigits H) := ⟨_, rfl⟩
        obtain ⟨S4, hS4⟩ : ∃ S4, S4 = str ([80, 49, 32, 35, 80, 52, 32, 57, 32, 57, 10] ++ Lib.decDigits W ++ [10] ++ Lib.decDigits H ++ [32]) := ⟨_, rfl⟩
        have lenW : (Lib.decDigits W).length ≤ 1048577 := decDigits_len W k1
        have lenH : (Lib.decDigits H).length ≤ 1048577 := decDigits_len H k2
        have r1 : ∀ w, (Op.stringOp .add { data := #[80, 49, 32, 35, 80, 52, 32, 57, 32, 57, 10] } (str (Lib.decDigits W))).run Tryd.prog w = .ok (.string S1) w := fun w => by rw [hS1]; exact str_add w [80, 49, 32, 35, 80, 52, 32, 57, 32, 57, 10] _ (by show 11 ≤ 8388608; omega) (by omega)
        have r2 : ∀ w, (Op.stringOp .add S1 { data := #[10] }).run Tryd.prog w = .ok (.string S2) w := fun w => by rw [hS1, hS2]; exact str_add w _ [10] (by simp; omega) (by show 1 ≤ 8388608; omega)
        have r3 : ∀ w, (Op.stringOp .add S2 (str (Lib.decDigits H))).run Tryd.prog w = .ok (.string S3) w := fun w => by rw [hS2, hS3]; exact str_add w _ _ (by simp; omega) (by omega)
        have r4 : ∀ w, (Op.stringOp .add S3 { data := #[32] }).run Tryd.prog w = .ok (.string S4) w := fun w => by rw [hS3, hS4]; exact str_add w _ [32] (by simp; omega) (by show 1 ≤ 8388608; omega)
        have HSP : Hid (SPr W H (pixOf W l) S4 0) := by
          refine ⟨⟨_, [], hS4, ?_, by simp; omega, fun k t => rfl⟩⟩
          unfold hdS decN
          simp
        have z1' : S1.size ≤ 4194304 := by rw [hS1, str_size]; simp; omega
        have z2' : S2.size ≤ 4194304 := by rw [hS2, str_size]; simp; omega
        have z3' : S3.size ≤ 4194304 := by rw [hS3, str_size]; simp; omega
        have hWb : (W : Int) ≤ 1048576 := by omega
        clear hS1 hS2 hS3 hS4
        have HK1 : Hid (W ≤ 1048576 ∧ H ≤ 1048576) := ⟨k1, k2⟩
        have HKK : Hid (∀ w', Fr (fun _ => False) w5 w' → w'.cell? ⟨B, 0, none⟩ = some (.int .i64 (W : Int)) ∧ w'.cell? ⟨B, 1, none⟩ = some (.int .i64 (H : Int))) := fun w' f => ⟨(HBW.out w' (HF5.out.trans f (fun _ _ h => h))).1, (HBW.out w' (HF5.out.trans f (fun _ _ h => h))).2.1⟩
        refine wp_region_held_drew (S := (fun w' => w'.cell? ⟨B, 0, none⟩ = some (.int .i64 (W : Int)) ∧ w'.cell? ⟨B, 1, none⟩ = some (.int .i64 (H : Int)))) (by kernel_rfl) (HKK.out _ (Fr.refl _ _).drew) (fun hHeld => ?_)
        refine wpAnyH_take (i := 0) (oi := _) (v := ?vv0) rfl (by kernel_rfl) (by kernel_rfl) (by kernel_rfl) (fun _ _ _ h => h) (Or.inl ⟨by kernel_rfl, ?hy0⟩) (by assumption) ?_
        case hy0 => (intro w hSw; (try dsimp only at hSw); obtain ⟨q0, q1⟩ := hSw; go_simp; all_goals (with_reducible rfl))
        (try simp only [Act.put, List.setIfInBounds_toArray, List.set_cons_zero, List.set_cons_succ])
        refine wpAnyH_take (i := 1) (oi := _) (v := ?vv1) rfl (by kernel_rfl) (by kernel_rfl) (by kernel_rfl) (fun _ _ _ h => h) (Or.inl ⟨by kernel_rfl, ?hy1⟩) (by assumption) ?_
        case hy1 => (intro w hSw; (try dsimp only at hSw); obtain ⟨q0, q1⟩ := hSw; go_simp; all_goals (with_reducible rfl))
        (try simp only [Act.put, List.setIfInBounds_toArray, List.set_cons_zero, List.set_cons_succ])
        refine wpAnyH_take (i := 2) (oi := _) (v := ?vv2) rfl (by kernel_rfl) (by kernel_rfl) (by kernel_rfl) (fun _ _ _ h => h) (Or.inl ⟨by kernel_rfl, ?hy2⟩) (by assumption) ?_
        case hy2 => (intro w hSw; (try dsimp only at hSw); obtain ⟨q0, q1⟩ := hSw; go_simp; all_goals (with_reducible rfl))
        (try simp only [Act.put, List.setIfInBounds_toArray, List.set_cons_zero, List.set_cons_succ])
        refine wpAnyH_take (i := 6) (oi := _) (v := ?vv6) rfl (by kernel_rfl) (by kernel_rfl) (by kernel_rfl) (fun _ _ _ h => h) (Or.inl ⟨by kernel_rfl, ?hy6⟩) (by assumption) ?_
        case hy6 => (intro w hSw; (try dsimp only at hSw); obtain ⟨q0, q1⟩ := hSw; go_simp; all_goals (with_reducible rfl))
        (try simp only [Act.put, List.setIfInBounds_toArray, List.set_cons_zero, List.set_cons_succ])
        refine wpAnyH_take (i := 7) (oi := _) (v := ?vv7) rfl (by kernel_rfl) (by kernel_rfl) (by kernel_rfl) (fun _ _ _ h => h) (Or.inl ⟨by kernel_rfl, ?hy7⟩) (by assumption) ?_
        case hy7 => (intro w hSw; (try dsimp only at hSw); obtain ⟨q0, q1⟩ := hSw; go_simp; all_goals (with_reducible rfl))
        (try simp only [Act.put, List.setIfInBounds_toArray, List.set_cons_zero, List.set_cons_succ])
        refine wpAnyH_take (i := 8) (oi := _) (v := ?vv8) rfl (by kernel_rfl) (by kernel_rfl) (by kernel_rfl) (fun _ _ _ h => h) (Or.inl ⟨by kernel_rfl, ?hy8⟩) (by assumption) ?_
        case hy8 => (intro w hSw; (try dsimp only at hSw); obtain ⟨q0, q1⟩ := hSw; go_simp; all_goals (with_reducible rfl))
        (try simp only [Act.put, List.setIfInBounds_toArray, List.set_cons_zero, List.set_cons_succ])
        refine wpAnyH_ready (rs := [3]) (by kernel_rfl) (by simp) ?_
        refine AllReadyH.cons (o := _) rfl (fun C hC => ?_) AllReadyH.nil
        go_simp
        refine Calls.mono (refNumber_any W HK1.out.1 _) ?_
        rintro e w6 ⟨rfl, hfw6⟩
        have HFw6 : Hid (Fr (fun _ => False) w5 w6) := ((Fr.refl (fun _ => False) w5).drew).trans hfw6 (fun _ _ h => h)
        clear hfw6
        go_simp
        refine hC.out _ _ (HKK.out _ HFw6.out) (fun hHeld => ?_)
        clear hC C
        (try simp only [Act.put, List.setIfInBounds_toArray, List.set_cons_zero, List.set_cons_succ])
        refine wpAnyH_take (i := 4) (oi := _) (v := ?vv4) rfl (by kernel_rfl) (by kernel_rfl) (by kernel_rfl) (fun _ _ _ h => h) (Or.inl ⟨by kernel_rfl, ?hy4⟩) (by assumption) ?_
        case hy4 => (intro w hSw; (try dsimp only at hSw); obtain ⟨q0, q1⟩ := hSw; go_simp; all_goals (with_reducible rfl))
        (try simp only [Act.put, List.setIfInBounds_toArray, List.set_cons_zero, List.set_cons_succ])
        refine wpAnyH_take (i := 5) (oi := _) (v := ?vv5) rfl (by kernel_rfl) (by kernel_rfl) (by kernel_rfl) (fun _ _ _ h => h) (Or.inl ⟨by kernel_rfl, ?hy5⟩) (by assumption) ?_
        case hy5 => (intro w hSw; (try dsimp only at hSw); obtain ⟨q0, q1⟩ := hSw; go_simp; all_goals (with_reducible rfl))
        (try simp only [Act.put, List.setIfInBounds_toArray, List.set_cons_zero, List.set_cons_succ])
        refine wpAnyH_ready (rs := [9]) (by kernel_rfl) (by simp) ?_
        refine AllReadyH.cons (o := _) rfl (fun C hC => ?_) AllReadyH.nil
        go_simp
        refine Calls.mono (refNumber_any H HK1.out.2 _) ?_
        rintro e w7 ⟨rfl, hfw7⟩
        have HFw7 : Hid (Fr (fun _ => False) w5 w7) := HFw6.out.trans hfw7 (fun _ _ h => h)
        clear hfw7
        go_simp
        refine hC.out _ _ (HKK.out _ HFw7.out) (fun hHeld => ?_)
        clear hC C
        (try simp only [Act.put, List.setIfInBounds_toArray, List.set_cons_zero, List.set_cons_succ])
        refine wpAnyH_take (i := 10) (oi := _) (v := ?vv10) rfl (by kernel_rfl) (by kernel_rfl) (by kernel_rfl) (fun _ _ _ h => h) (Or.inl ⟨by kernel_rfl, ?hy10⟩) (by assumption) ?_
        case hy10 => (intro w hSw; (try dsimp only at hSw); obtain ⟨q0, q1⟩ := hSw; go_simp; all_goals (with_reducible rfl))
        (try simp only [Act.put, List.setIfInBounds_toArray, List.set_cons_zero, List.set_cons_succ])
        refine wpAnyH_take (i := 11) (oi := _) (v := ?vv11) rfl (by kernel_rfl) (by kernel_rfl) (by kernel_rfl) (fun _ _ _ h => h) (Or.inl ⟨by kernel_rfl, ?hy11⟩) (by assumption) ?_
        case hy11 => (intro w hSw; (try dsimp only at hSw); obtain ⟨q0, q1⟩ := hSw; go_simp; all_goals (with_reducible rfl))
        (try simp only [Act.put, List.setIfInBounds_toArray, List.set_cons_zero, List.set_cons_succ])
        refine wpAnyH_ready (rs := [12]) (by kernel_rfl) (by simp) ?_
        refine AllReadyH.cons (o := _) rfl (fun C hC => ?_) AllReadyH.nil
        go_simp
        refine hC.out _ _ hHeld (fun hHeld => ?_)
        clear hC C
        refine wpAnyH_done (by kernel_rfl) ?_ _
        clear r1 r2 r3 r4 z1' z2' z3' lenW lenH hHeld
        have HF8 : Hid (Fr (fun _ => False) w1 w7) := HF5.out.trans HFw7.out (fun _ _ h => h)
        have HLR : Hid (l = render W H (pixOf W l)) := by
          obtain ⟨W', H', e1, e2, g1, g2, g3, hl, hr⟩ := valid_parts HVB.out
          have e1' : W' = W := by omega
          have e2' : H' = H := by omega
          subst e1' e2'
          exact valid_render W' H' l g1 hl hr HLT.out
        obtain ⟨P, hP⟩ : ∃ P, P = pixOf W l := ⟨_, rfl⟩
        rw [← hP] at HSP HLR
        clear hP
        have HWH : Hid (1 ≤ W ∧ 1 ≤ H ∧ W * H = A ∧ A ≤ 3000) := ⟨z1, z2, HA.out.symm, h3000⟩
        have HBX : Hid (∀ w', Fr (fun _ => False) w5 w' → w'.cell? ⟨B, 0, none⟩ = some (.int .i64 (W : Int)) ∧ w'.cell? ⟨B, 1, none⟩ = some (.int .i64 (H : Int)) ∧ w'.cell? ⟨B, 2, none⟩ = some (.slice ao n cap) ∧ w'.cell? ⟨B, 3, none⟩ = some (.slice bo nb cb) ∧ Seen w' (.slice ao n cap) (render W H P)) := fun w' f => by
          obtain ⟨c0, c1, c2, c3, c4, _⟩ := HBW.out w' (HF5.out.trans f (fun _ _ h => h))
          rw [← HLR.out]
          exact ⟨c0, c1, c2, c3, c4⟩
        go_wp2_with fail
        go_loopg [4, 5, 6] H (fun q fv nv i wr => ∃ (yy p : Nat) (F : ByteArray), yy + q = H ∧ i = .int .i64 yy ∧ p = yy * W ∧ nv = .int .i64 p ∧ fv = .string F ∧ SPr W H P F p ∧ Fr (fun _ => False) w5 wr)
        case atStart => exact ⟨0, 0, S4, by omega, rfl, by simp, rfl, rfl, HSP.out, HFw7.out⟩
        case round =>
          clear HSP HFw7 HFw6 HF8
          obtain ⟨yy, p0, F0, hyq, rfl, hp0, rfl, rfl, hsp, hf⟩ := hrel
          have HSP0 : Hid (SPr W H P F0 p0) := hsp
          have HFr : Hid (Fr (fun _ => False) w5 wr) := hf
          have HP0 : Hid (p0 = yy * W) := hp0
          clear hsp hf hp0
          obtain ⟨c0, c1, c2, c3, _⟩ := HBX.out wr HFr.out
          by_cases hyH : yy < H
          · have hdy : decide (yy < H) = true := decide_eq_true hyH
            go_wp2_with fail
            go_loopg [4, 5, 7] W (fun q fv nv i wr => ∃ (x p : Nat) (F : ByteArray), x + q = W ∧ i = .int .i64 x ∧ p = yy * W + x ∧ nv = .int .i64 p ∧ fv = .string F ∧ SPr W H P F p ∧ Fr (fun _ => False) w5 wr)
            case atStart => exact ⟨0, p0, F0, by omega, rfl, by rw [HP0.out]; omega, rfl, rfl, HSP0.out, HFr.out⟩
            case round =>
              clear HSP0 HFr c0 c1 c2 c3
              obtain ⟨x, p, F, hxq, rfl, hp, rfl, rfl, hsp, hf⟩ := hrel
              have HSPx : Hid (SPr W H P F p) := hsp
              have HFx : Hid (Fr (fun _ => False) w5 wr) := hf
              have HPx : Hid (p = yy * W + x) := hp
              obtain ⟨c0, c1, c2, c3, c4⟩ := HBX.out wr HFx.out
              have HS4 : Hid (Seen wr (.slice ao n cap) (render W H P)) := c4
              clear hsp hf c4
              by_cases hxW : x < W
              · have hdx : decide (x < W) = true := decide_eq_true hxW
                have hpA : p < 3000 := by
                  have h3 : (yy + 1) * W ≤ H * W := Nat.mul_le_mul_right _ hyH
                  rw [Nat.add_mul, Nat.mul_comm H W, HWH.out.2.2.1] at h3
                  have := HWH.out.2.2.2
                  omega
                clear hp
                have HPD : Hid (p % W = x ∧ p / W = yy) := by
                  have hW0 : 0 < W := by omega
                  refine ⟨?_, ?_⟩
                  · rw [HPx.out, Nat.mul_comm, Nat.mul_add_mod, Nat.mod_eq_of_lt hxW]
                  · rw [HPx.out, Nat.mul_comm, Nat.mul_add_div hW0, Nat.div_eq_of_lt hxW, Nat.add_zero]
                obtain ⟨bt, hbt⟩ : ∃ bt, bt = (P x yy).toNat := ⟨_, rfl⟩
                have HBT : Hid (bt = (P x yy).toNat) := hbt
                have hbt1 : bt ≤ 1 := by rw [hbt]; cases P x yy <;> simp
                obtain ⟨c48, hc48⟩ : ∃ c48, c48 = 48 + bt := ⟨_, rfl⟩
                have e48 : 48 + (bt : Int) = (c48 : Int) := by omega
                have hc256 : c48 < 256 := by omega
                have HC48 : Hid (c48 = dgt (P (p % W) (p / W))) := by
                  show _ = _
                  rw [HPD.out.1, HPD.out.2, hc48, hbt]; rfl
                have kcv := fun w : World => one_string w c48 hc256
                clear hc48 hbt
                by_cases hnb0 : 0 < nb
                · have hnbI : (0 : Int) < (nb : Int) := by omega
                  obtain ⟨ix, hix⟩ : ∃ ix, ix = p % nb := ⟨_, rfl⟩
                  have hixl : ix < nb := by rw [hix]; exact Nat.mod_lt _ hnb0
                  have hixp : ix ≤ p := by rw [hix]; exact Nat.mod_le _ _
                  have hwx : IntKind.i64.wrap (ix : Int) = ix := wrap64_small ix (by omega) (by omega)
                  have q1 : (p : Int) % (nb : Int) = (ix : Int) := by rw [hix]; push_cast; rfl
                  have q1' : (p : Int).tmod (nb : Int) = (ix : Int) := by rw [hix]; push_cast; rfl
                  have qq : Op.intDiv .rem .i64 (p : Int) (nb : Int) = pure (.int .i64 (ix : Int)) := by
                    unfold Op.intDiv
                    rw [if_neg (by omega)]
                    show pure (Value.int .i64 ((p : Int).tmod (nb : Int))) = _
                    rw [q1']
                  have hne : ¬ nb = 0 := by omega
                  have hne' : ¬ (nb : Int) = 0 := by omega
                  obtain ⟨bb, off, rfl, hcc⟩ := HBY.out hnb0
                  obtain ⟨hcell, hY1, hY2⟩ := hcc ix hixl
                  obtain ⟨YV, hYV⟩ : ∃ YV, YV = Y ix := ⟨_, rfl⟩
                  rw [← hYV] at hcell hY1 hY2
                  obtain ⟨kk, hkk⟩ : ∃ kk : Nat, (kk : Int) = YV % 7 := ⟨(YV % 7).toNat, by omega⟩
                  have hkk7 : kk < 7 := by omega
                  obtain ⟨F2, hadd2, hex2⟩ := SPr.gap HSPx.out (by omega) kk
                  have HX2 : Hid (∃ (L : List UInt8) (tl : List Nat), F2 = str L ∧ L.map UInt8.toNat = hdS W H ++ 32 :: tl ∧ L.length ≤ 3145728 + 16 * p + 8 ∧ ∀ k t, finS (k + 1 + p) [] (tl ++ t) = finS (k + 1) (bitsP W P p) t) := hex2
                  obtain ⟨SB, hSB⟩ : ∃ SB, SB = str (btL kk) := ⟨_, rfl⟩
                  have hadd2' : ∀ w, (Op.stringOp .add F SB).run Tryd.prog w = .ok (.string F2) w := by rw [hSB]; exact hadd2
                  have HWI : Hid (∀ w', Calls Tryd.prog 22 #[.int .i64 YV, .int .i64 7] w' fun e w'' => e = .returned (.int .i64 (kk : Int)) ∧ w'' = w') := fun w' => by
                    have h := within_any YV 7 w' ⟨hY1, hY2⟩ (by omega) (by omega)
                    rw [hkk]
                    exact h
                  have HKK2 : Hid (∀ w', Fr (fun _ => False) wr w' → w'.cell? ⟨B, 3, none⟩ = some (.slice (some ⟨bb, off, none⟩) nb cb) ∧ w'.cell? ⟨bb, off + ix, none⟩ = some (.int .i64 YV) ∧ w'.cell? ⟨Bt, kk, none⟩ = some (.string SB)) := fun w' f => by
                    refine ⟨(HBX.out w' (HFx.out.trans f (fun _ _ h => h))).2.2.2.1, ?_, by rw [hSB]; exact HBS.out w' (HFx.out.trans f (fun _ _ h => h)) kk hkk7⟩
                    exact (((HF1.out.trans HF5.out (fun _ _ h => h)).trans HFx.out (fun _ _ h => h)).trans f (fun _ _ h => h)).cellv hcell (fun h => h)
                  obtain ⟨c3b, d1, d2⟩ := HKK2.out wr (Fr.refl _ _)
                  have hkI : (kk : Int) < 7 := by omega
                  have hwk : IntKind.i64.wrap (kk : Int) = kk := wrap64_small kk (by omega) (by omega)
                  clear hcc hcell hex2 hadd2 hSB hkk hYV hix
                  go_wp2_with fail
                  go_region_held3 (fun w' => w'.cell? ⟨B, 3, none⟩ = some (.slice (some ⟨bb, off, none⟩) nb cb) ∧ w'.cell? ⟨bb, off + ix, none⟩ = some (.int .i64 YV) ∧ w'.cell? ⟨Bt, kk, none⟩ = some (.string SB)) (exact HKK2.out _ (by repeat (first | with_reducible exact Fr.refl _ _ | with_reducible refine Fr.drew ?_))) (first | (go_at_call 22; refine Calls.mono (HWI.out _) ?_; rintro e w8 ⟨rfl, rfl⟩))
                  have HFy : Hid (Fr (fun _ => False) w5 (wr.drew)) := HFx.out.drew
                  obtain ⟨F3, hadd3, hsp3⟩ := SPr.pix HX2.out (by omega) c48 HC48.out
                  have HSP3 : Hid (SPr W H P F3 (p + 1)) := hsp3
                  have hadd3' : ∀ w, (Op.stringOp .add F2 (str [UInt8.ofNat c48])).run Tryd.prog w = .ok (.string F3) w := hadd3
                  clear hsp3 hadd3
                  go_wp2_with fail
                  refine Calls.mono (zget_in W H (.slice ao n cap) P x yy (wr.drew) (HBX.out _ HFy.out).2.2.2.2 HWH.out.1 HWH.out.2.1 (by have := HWH.out.2.2; omega) hxW hyH) ?_
                  rintro e w9 ⟨rfl, hf9⟩
                  have HF9 : Hid (Fr (fun _ => False) w5 w9) := HFy.out.trans hf9 (fun _ _ h => h)
                  clear hf9
                  rw [← HBT.out]
                  go_wp2_with fail
                  have HF10 : Hid (Fr (fun _ => False) w5 (w9.alloc (.cells #[.int .u8 (c48 : Int)] 5))) := HF9.out.alloc _
                  go_roundg (W - (x + 1))
                  case measure => omega
                  case rel => exact ⟨x + 1, p + 1, F3, by omega, congrArg (Value.int .i64) (by omega), by rw [HPx.out]; omega, congrArg (Value.int .i64) (by omega), rfl, HSP3.out, HF10.out⟩
                · have hnbI : decide ((0 : Int) < (nb : Int)) = false := decide_eq_false (by omega)
                  have hnbN : decide (0 < nb) = false := decide_eq_false hnb0
                  clear hnb0
                  have HX2 : Hid (∃ (L : List UInt8) (tl : List Nat), F = str L ∧ L.map UInt8.toNat = hdS W H ++ 32 :: tl ∧ L.length ≤ 3145728 + 16 * p + 8 ∧ ∀ k t, finS (k + 1 + p) [] (tl ++ t) = finS (k + 1) (bitsP W P p) t) := HSPx.out.same
                  have HFy : Hid (Fr (fun _ => False) w5 wr) := HFx.out
                  obtain ⟨F3, hadd3, hsp3⟩ := SPr.pix HX2.out (by omega) c48 HC48.out
                  have HSP3 : Hid (SPr W H P F3 (p + 1)) := hsp3
                  have hadd3' : ∀ w, (Op.stringOp .add F (str [UInt8.ofNat c48])).run Tryd.prog w = .ok (.string F3) w := hadd3
                  clear hsp3 hadd3
                  go_wp2_with fail
                  refine Calls.mono (zget_in W H (.slice ao n cap) P x yy wr (HBX.out _ HFy.out).2.2.2.2 HWH.out.1 HWH.out.2.1 (by have := HWH.out.2.2; omega) hxW hyH) ?_
                  rintro e w9 ⟨rfl, hf9⟩
                  have HF9 : Hid (Fr (fun _ => False) w5 w9) := HFy.out.trans hf9 (fun _ _ h => h)
                  clear hf9
                  rw [← HBT.out]
                  go_wp2_with fail
                  have HF10 : Hid (Fr (fun _ => False) w5 (w9.alloc (.cells #[.int .u8 (c48 : Int)] 5))) := HF9.out.alloc _
                  go_roundg (W - (x + 1))
                  case measure => omega
                  case rel => exact ⟨x + 1, p + 1, F3, by omega, congrArg (Value.int .i64) (by omega), by rw [HPx.out]; omega, congrArg (Value.int .i64) (by omega), rfl, HSP3.out, HF10.out⟩
              · have hdx : decide (x < W) = false := decide_eq_false hxW
                go_wp2_with fail
                go_roundg (H - (yy + 1))
                case measure => omega
                case rel => exact ⟨yy + 1, p, F, by omega, congrArg (Value.int .i64) (by omega), by rw [HPx.out, Nat.add_mul]; omega, rfl, rfl, HSPx.out, HFx.out⟩
          · have hdy : decide (yy < H) = false := decide_eq_false hyH
            have HYE : Hid (yy = H) := by show _ = _; omega
            have HSPE : Hid (SPr W H P F0 (W * H)) := by
              have h := HSP0.out
              rw [HP0.out, HYE.out, Nat.mul_comm] at h
              exact h
            have kc := fun (w : World) (s : ByteArray) => run_bytes_of_string (P := Tryd.prog) w 9 27 5 s Tryd.underlying9 Tryd.underlying27 Tryd.underlying5
            obtain ⟨F9, hadd9, hsz9, Q, hq, hPQ⟩ := SPr.read HSZ.out HSPE.out (by rw [HWH.out.2.2.1]; exact h3000)
            have kd9 : ∀ w, (Op.stringOp .add F0 { data := #[32, 35, 32, 101, 110, 100] }).run Tryd.prog w = .ok (.string F9) w := hadd9
            have HQ : Hid (readS (F9.data.toList.map UInt8.toNat) = .ok (W, H, Q) ∧ ∀ x y, x < W → y < H → Q x y = P x y) := ⟨hq, hPQ⟩
            clear hadd9 hq hPQ HSPE HSP0
            go_wp2_with fail
            have hr := RowM.of_string wr F9 (grownCap wr F9.size 0 5) 1 (grownCap_ge _ _ _ _) (grownCap_le_maxLen _ _ _ _ (by unfold maxLen; omega))
            have HF7 : Hid (Fr (fun _ => False) w5 (wr.alloc (.cells (bytesRow F9 (grownCap wr F9.size 0 5)) 5 ((bytesRow F9 (grownCap wr F9.size 0 5)).size, (bytesRow F9 (grownCap wr F9.size 0 5)).size + 1))).drew) := (HFr.out.alloc _).drew
            have HR7 : Hid (RowM (wr.alloc (.cells (bytesRow F9 (grownCap wr F9.size 0 5)) 5 ((bytesRow F9 (grownCap wr F9.size 0 5)).size, (bytesRow F9 (grownCap wr F9.size 0 5)).size + 1))).drew wr.heap.size (grownCap wr F9.size 0 5) (F9.data.toList.map UInt8.toNat)) := hr.kept ((Fr.refl (fun _ => False) _).drew) (fun h => h)
            clear hr c0 c1 c2 c3
            generalize (wr.alloc (.cells (bytesRow F9 (grownCap wr F9.size 0 5)) 5 ((bytesRow F9 (grownCap wr F9.size 0 5)).size, (bytesRow F9 (grownCap wr F9.size 0 5)).size + 1))).drew = w7 at *
            generalize grownCap wr F9.size 0 5 = cp at *
            have hbl : (F9.data.toList.map UInt8.toNat).length = F9.size := by rw [List.length_map]; rfl
            have HRD : Hid (Calls Tryd.prog 14 #[.slice (some ⟨wr.heap.size, 0, none⟩) F9.size cp] w7 (ReadQ w7 (.ok (W, H, Q)))) := by
              have h := read_row wr.heap.size cp _ w7 HR7.out (by rw [hbl]; omega) (fun x hx => by
                obtain ⟨u, _, rfl⟩ := List.mem_map.1 hx
                exact u.toNat_lt)
              rw [hbl, HQ.out.1] at h
              exact h
            clear hbl
            refine Calls.mono HRD.out ?_
            rintro e w8 ⟨hf8, v8, rfl, g8, p8, hv8, ho8, hg8, _⟩
            simp only at hv8 ho8
            have hwords : render W H Q = render W H P := render_congr HQ.out.2
            rw [hwords] at ho8
            have HNN : Hid (H * stride W = n) := by show _ = _; rw [← length_render W H P, ← HLR.out, HN.out]
            rw [HNN.out] at hv8 ho8
            subst hv8
            have HF8 : Hid (Fr (fun _ => False) w5 w8) := HF7.out.trans hf8 (fun _ _ h => h)
            have HS8 : Hid (Seen w8 (.slice (some ⟨g8, 0, none⟩) n p8) (render W H P)) := by
              show Seen _ _ _
              have e : n = (render W H P).length := by rw [length_render, HNN.out]
              rw [e] at ho8 ⊢
              exact Seen.of_row ho8 (by rw [← e]; exact hll)
            clear hf8 ho8 hg8 hwords HRD HR7
            go_upto_region 17 with (fail)
            have HF9 : Hid (Fr (fun _ => False) w8 (w8.alloc (.cells #[.int .i64 (W : Int), .int .i64 (H : Int), .slice (some ⟨g8, 0, none⟩) n p8] 25))) := (Fr.refl _ w8).alloc _
            have HB9 := heap_alloc_new w8 (.cells #[.int .i64 (W : Int), .int .i64 (H : Int), .slice (some ⟨g8, 0, none⟩) n p8] 25)
            generalize (w8.alloc (.cells #[.int .i64 (W : Int), .int .i64 (H : Int), .slice (some ⟨g8, 0, none⟩) n p8] 25)) = w9 at *
            obtain ⟨d0, d1, d2, _⟩ := cell_of_three HB9
            have HF59 : Hid (Fr (fun _ => False) w5 w9) := HF8.out.trans HF9.out (fun _ _ h => h)
            obtain ⟨c0, c1, c2, c3, hs9⟩ := HBX.out w9 HF59.out
            have HS9 : Hid (Seen w9 (.slice ao n cap) (render W H P)) := hs9
            clear hs9 HB9
            go_wp2_with fail
            refine Calls.mono (eqBitmap_int (W : Int) (H : Int) (.slice (some ⟨g8, 0, none⟩) n p8) (.slice ao n cap) (render W H P) w9 (HS8.out.kept HF9.out) HS9.out) ?_
            rintro e w10 ⟨rfl, hf10⟩
            have HF10 : Hid (Fr (fun _ => False) w1 w10) := HF5.out.trans (HF59.out.trans hf10 (fun _ _ h => h)) (fun _ _ h => h)
            clear hf10
            go_wp2_with fail
            refine Calls.mono (HWK.out w10 HF10.out) ?_
            rintro e w11 ⟨rfl, hf11⟩
            go_wp2_with fail
            go_ret
            exact ⟨rfl, hf11⟩
end Go.Proofs.YtpfajkkjnobdlaaDoor
