/- The law 'GenericSmall'. -/
import Derived.Test.YtkggdnkmaldmlabK9
import Derived.Deep.RegionHeld3
namespace Go.Proofs.Ytkggdnkmaldmlab
open Go.RowKit

set_option maxRecDepth 100000 in
set_option maxHeartbeats 8000000 in
theorem small7_any (x y b : Int) (w : World) (hx : -9223372036854775808 ≤ x ∧ x ≤ 9223372036854775807) (hy : -9223372036854775808 ≤ y ∧ y ≤ 9223372036854775807) :
    Calls Try.prog 4 #[.agg #[.int .i64 x, .int .i64 y, .int .i64 b]] w fun e w' => e = .returned (.bool true) ∧ Fr (fun _ => False) w w' := by
  obtain ⟨p1, Hp1⟩ : ∃ p1, Hid (p1 = placeOf x 3000) := ⟨_, rfl⟩
  have hp1 : p1 < 3000 := by rw [Hp1.out]; exact placeOf_lt x (by omega)
  obtain ⟨W, Hw⟩ : ∃ W : Nat, Hid (W = 1 + p1) := ⟨_, rfl⟩
  have eW : 1 + (p1 : Int) = (W : Int) := by rw [Hw.out]; omega
  have hW1 : 1 ≤ W := by rw [Hw.out]; omega
  have hW2 : W ≤ 3000 := by rw [Hw.out]; omega
  obtain ⟨q, Hq⟩ : ∃ q : Nat, Hid (q = 40000 / W) := ⟨_, rfl⟩
  have hq1 : 1 ≤ q := by rw [Hq.out]; exact (Nat.le_div_iff_mul_le hW1).2 (by omega)
  have hq2 : q ≤ 40000 := by rw [Hq.out]; exact Nat.div_le_self _ _
  have eQ : Int.tdiv 40000 (W : Int) = (q : Int) := by rw [Int.tdiv_eq_ediv_of_nonneg (by omega), Hq.out]; exact (Int.natCast_ediv 40000 W).symm
  obtain ⟨p2, Hp2⟩ : ∃ p2, Hid (p2 = placeOf y q) := ⟨_, rfl⟩
  have hp2 : p2 < q := by rw [Hp2.out]; exact placeOf_lt y (by omega)
  obtain ⟨H, Hh⟩ : ∃ H : Nat, Hid (H = 1 + p2) := ⟨_, rfl⟩
  have eH : 1 + (p2 : Int) = (H : Int) := by rw [Hh.out]; omega
  have hH1 : 1 ≤ H := by rw [Hh.out]; omega
  have hH2 : H ≤ 40000 := by rw [Hh.out]; omega
  obtain ⟨M, HM⟩ : ∃ M : Nat, Hid (M = H * W) := ⟨_, rfl⟩
  have hM : M ≤ 40000 := by
    have h1 : H * W ≤ q * W := Nat.mul_le_mul_right W (by rw [Hh.out]; omega)
    have h2 : q * W ≤ 40000 := by rw [Hq.out]; exact Nat.div_mul_le_self _ _
    rw [HM.out]; omega
  have eM : (W : Int) * (H : Int) = (M : Int) := by rw [HM.out, Nat.mul_comm]; exact (Int.natCast_mul W H).symm
  obtain ⟨r, Hr⟩ : ∃ r : Nat, Hid (r = M / 32) := ⟨_, rfl⟩
  have hr : r ≤ 1250 := by rw [Hr.out]; omega
  have eR : Int.tdiv (M : Int) 32 = (r : Int) := by rw [Int.tdiv_eq_ediv_of_nonneg (by omega), Hr.out]; omega
  obtain ⟨m0, Hm0⟩ : ∃ m0, Hid (m0 = H * stride W) := ⟨_, rfl⟩
  have hWH : W * H ≤ 1048576 := by rw [Nat.mul_comm, ← HM.out]; omega
  have hHW1 : H * (W + 1) ≤ 16777216 := by rw [Nat.mul_add, ← HM.out]; omega
  have HWi1 : Hid (∀ w', Calls Try.prog 13 #[.int .i64 x, .int .i64 3000] w' fun e w'' => e = .returned (.int .i64 (p1 : Nat)) ∧ w'' = w') := fun w' => by
    rw [Hp1.out]; exact within_p x 3000 w' hx (by omega) (by omega)
  have HWi2 : Hid (∀ w', Calls Try.prog 13 #[.int .i64 y, .int .i64 q] w' fun e w'' => e = .returned (.int .i64 (p2 : Nat)) ∧ w'' = w') := fun w' => by
    rw [Hp2.out]; exact within_p y q w' hy hq1 (by omega)
  have HWh : Hid (∀ w', Calls Try.prog 5 #[.int .i64 W, .int .i64 H] w' fun e w'' => ∃ g, e = .returned (.agg #[.int .i64 W, .int .i64 H, .slice (some ⟨g, 0, none⟩) m0 m0]) ∧ RowAt w'' g m0 W H (cur W (allC true) 0 0) ∧ Fr (fun _ => False) w' w'' ∧ w'.heap.size ≤ g) := fun w' => by
    rw [Hm0.out, cur_first]; exact zwhite_any W H w' hW1 hH1 hWH
  have HPt : Hid (∀ (w' : World) (g a e : Nat), a < W → e < H → RowAt w' g m0 W H (cur W (allC true) e a) → Calls Try.prog 14 #[.agg #[.int .i64 W, .int .i64 H, .slice (some ⟨g, 0, none⟩) m0 m0], .int .i64 a, .int .i64 e, .int .i64 1] w' fun e' w'' => e' = .returned (.tuple #[]) ∧ RowAt w'' g m0 W H (cur W (allC true) e (a + 1)) ∧ Fr (fun k => k = g) w' w'') := fun w' g a e ha he hr => by
    have h := zput_any W H g m0 _ a e true w' hr hW1 hH1 hWH ha he
    rw [← Hm0.out] at h
    have ep : putPix (cur W (allC true) e a) a e true = cur W (allC true) e (a + 1) := cur_put W (allC true) a e ha
    rw [ep] at h
    exact h
  have HEn : Hid (∀ (w' : World) (g t : Nat) (sk c : Bool) (Q : Pxs), t < 4 → (∀ a e, a < W → e < H → Q a e = c) → RowAt w' g m0 W H Q → Calls Try.prog 15 #[.agg #[.int .i64 W, .int .i64 H, .slice (some ⟨g, 0, none⟩) m0 m0], .int .i64 t, .bool sk] w' fun e w'' => ∃ g2 n cap, e = .returned (.tuple #[.slice (some ⟨g2, 1, none⟩) n cap, .int .i64 0]) ∧ n ≤ 160 + r ∧ Fr (fun _ => False) w' w'') := fun w' g t sk c Q ht hQ hr => by
    have hb := hr.bm hW1 hH1 hWH
    rw [← Hm0.out] at hb
    refine (gencode_ok W H _ Q t sk w' hb ht hHW1).mono ?_
    rintro e w2 ⟨g2, n, cap, rfl, hs, hf, _⟩
    refine ⟨g2, n, cap, rfl, ?_, hf⟩
    have hl := small_len t W H sk c Q ht hW1 hH1 (by rw [← HM.out]; exact hM) hQ
    rw [← HM.out, ← Hr.out] at hl
    obtain ⟨ao, c2, hv, _⟩ := hs
    cases hv
    exact hl
  have HBX : Hid (∀ w', Fr (fun _ => False) (w.alloc (.cells #[.int .i64 x, .int .i64 y, .int .i64 b] 42)) w' → w'.cell? ⟨w.heap.size, 0, none⟩ = some (.int .i64 x) ∧ w'.cell? ⟨w.heap.size, 1, none⟩ = some (.int .i64 y) ∧ w'.cell? ⟨w.heap.size, 2, none⟩ = some (.int .i64 b)) := fun w' hf => by
    obtain ⟨c0, c1, c2, _⟩ := cell_of_three ((hf.block w.heap.size (by simp) (fun hh => hh)).trans (heap_alloc_new w _))
    exact ⟨c0, c1, c2⟩
  have HA : Hid (Fr (fun _ => False) w (w.alloc (.cells #[.int .i64 x, .int .i64 y, .int .i64 b] 42))) := (Fr.refl _ _).alloc _
  have hn0 : (W : Int) ≠ 0 := by omega
  have hn1 : ((W : Int) == 0) = false := by rw [beq_eq_false_iff_ne]; omega
  have hn2 : ¬ W = 0 := by omega
  have hwq : IntKind.i64.wrap (q : Int) = (q : Int) := by rw [IntKind.wrap_i64]; omega
  have hwH : IntKind.i64.wrap (H : Int) = (H : Int) := by rw [IntKind.wrap_i64]; omega
  have hwW : IntKind.i64.wrap (W : Int) = (W : Int) := by rw [IntKind.wrap_i64]; omega
  have hwM : IntKind.i64.wrap (M : Int) = (M : Int) := by rw [IntKind.wrap_i64]; omega
  have hlow := lowBit_and b
  clear hx hy hWH hHW1 hp1 hp2
  have hp1 : p1 < 3000 := by have := eW; omega
  have hp2 : p2 < 40000 := by have := eH; omega
  go_enter Try.func4, Try.ntmps4
  go_wp2_with fail
  generalize w.alloc (.cells #[.int .i64 x, .int .i64 y, .int .i64 b] 42) = w0 at *
  refine (HWi1.out _).mono ?_
  rintro e w1 ⟨rfl, rfl⟩
  obtain ⟨c0, c1, c2⟩ := HBX.out _ (Fr.refl _ _)
  go_wp2_with fail
  go_region_held3 (fun w' => w'.cell? ⟨w.heap.size, 1, none⟩ = some (.int .i64 y)) (exact (HBX.out _ (by repeat (first | with_reducible exact Fr.refl _ _ | with_reducible refine Fr.drew ?_ | with_reducible refine Fr.drewN ?_ _))).2.1) (first | (go_at_call 13; refine (HWi2.out _).mono ?_; rintro e w2 ⟨rfl, rfl⟩))
  have HA1 : Hid (Fr (fun _ => False) w1 w1.drew) := (Fr.refl _ _).drew
  generalize w1.drew = w3 at *
  go_wp2_with fail
  refine (HWh.out _).mono ?_
  rintro e w4 ⟨g, rfl, hr4, hf4, hg4⟩
  have HF4 : Hid (Fr (fun _ => False) w1 (w4.alloc (.cells #[.int .i64 W, .int .i64 H, .slice (some ⟨g, 0, none⟩) m0 m0] 24))) := (HA1.out.trans hf4 (fun _ _ h => h)).alloc _
  have HR4 : Hid (RowAt (w4.alloc (.cells #[.int .i64 W, .int .i64 H, .slice (some ⟨g, 0, none⟩) m0 m0] 24)) g m0 W H (cur W (allC true) 0 0)) := hr4.kept ((Fr.refl (fun _ => False) w4).alloc _) (fun h => h)
  have HG4 : Hid (w3.heap.size ≤ g ∧ g < w4.heap.size) := ⟨hg4, hr4.lt⟩
  have HB4 : Hid ((w4.alloc (.cells #[.int .i64 W, .int .i64 H, .slice (some ⟨g, 0, none⟩) m0 m0] 24)).heap[w4.heap.size]? = some (.cells #[.int .i64 W, .int .i64 H, .slice (some ⟨g, 0, none⟩) m0 m0] 24 (0, 0))) := heap_alloc_new w4 _
  have HL4 : Hid (w4.heap.size < (w4.alloc (.cells #[.int .i64 W, .int .i64 H, .slice (some ⟨g, 0, none⟩) m0 m0] 24)).heap.size) := lt_of_block (heap_alloc_new w4 _)
  clear hr4 hf4 hg4 c0 c1 c2
  obtain ⟨c0, c1, c2⟩ := HBX.out _ HF4.out
  have hlb : lowBit b = 0 ∨ lowBit b = 1 := by have := lowBit_lt b; omega
  rcases hlb with hlb | hlb
  · have hlow0 : bits .and .i64 b 1 = 0 := by rw [hlow, hlb]; rfl
    clear hlow
    go_wp2_with fail
    generalize w4.alloc (.cells #[.int .i64 W, .int .i64 H, .slice (some ⟨g, 0, none⟩) m0 m0] 24) = w5 at *
    have HFw : Hid (Fr (fun _ => False) w w5) := HA.out.trans HF4.out (fun _ _ h => h)
    have HBl : Hid (w4.heap.size < w5.heap.size) := HL4.out
    have HBk : Hid (w5.heap[w4.heap.size]? = some (.cells #[.int .i64 W, .int .i64 H, .slice (some ⟨g, 0, none⟩) m0 m0] 24 (0, 0))) := HB4.out
    go_loopw [8, 9, 10, 11] (fun a _ _ _ wr => ∃ t : Nat, t ≤ 4 ∧ a = .int .i64 t ∧ Fr (fun _ => False) w5 wr) (fun a _ _ _ _ => 4 - (intOf a).toNat)
    case atStart => exact ⟨0, by omega, rfl, Fr.refl _ _⟩
    case round =>
      obtain ⟨t, ht4, rfl, hfr⟩ := hrel
      have HFr : Hid (Fr (fun _ => False) w5 wr) := hfr
      clear hfr
      by_cases htt : t < 4
      · have hdt : decide ((t : Int) < 4) = true := decide_eq_true (by omega)
        go_wp2_with fail
        go_loopw [9, 10, 11] (fun a _ _ wk => ∃ k : Nat, k ≤ 2 ∧ a = .int .i64 k ∧ Fr (fun _ => False) w5 wk) (fun a _ _ _ => 2 - (intOf a).toNat)
        case atStart => exact ⟨0, by omega, rfl, HFr.out⟩
        case round =>
          obtain ⟨k, hk2, rfl, hfk⟩ := hrel
          have HFk : Hid (Fr (fun _ => False) w5 wr) := hfk
          clear hfk
          by_cases hkk : k < 2
          · obtain ⟨z0, z1, z2, zf⟩ := cell_of_three ((HFk.out.block w4.heap.size HBl.out (fun h => h)).trans HBk.out)
            clear zf
            have HE : Hid (∀ sk, Calls Try.prog 15 #[.agg #[.int .i64 W, .int .i64 H, .slice (some ⟨g, 0, none⟩) m0 m0], .int .i64 t, .bool sk] wr fun e w'' => ∃ g2 n cap, e = .returned (.tuple #[.slice (some ⟨g2, 1, none⟩) n cap, .int .i64 0]) ∧ n ≤ 160 + r ∧ Fr (fun _ => False) wr w'') := fun sk => HEn.out wr g t sk false _ htt (fun a e _ _ => by rw [cur_first]) (HR4.out.kept HFk.out (fun h => h))
            go_wp2_with fail
            refine (HE.out _).mono ?_
            rintro e w8 ⟨g2, n, cap, rfl, hn, hf8⟩
            have HF8 : Hid (Fr (fun _ => False) w5 w8) := HFk.out.trans hf8 (fun _ _ h => h)
            clear hf8 z0 z1 z2
            go_wp2_with fail
            exact ⟨⟨k + 1, by omega, congrArg (Value.int .i64) (by omega), HF8.out⟩, by simp only [intOf]; omega⟩
          · have hdk : decide ((k : Int) < 2) = false := decide_eq_false (by omega)
            go_wp2_with fail
            exact ⟨⟨t + 1, by omega, congrArg (Value.int .i64) (by omega), HFk.out⟩, by simp only [intOf]; omega⟩
      · have hdt : decide ((t : Int) < 4) = false := decide_eq_false (by omega)
        go_wp2_with fail
        refine (wakes7 _).mono ?_
        rintro e w9 ⟨rfl, hf9⟩
        have HF9 : Hid (Fr (fun _ => False) w w9) := (HFw.out.trans HFr.out (fun _ _ h => h)).trans hf9 (fun _ _ h => h)
        clear hf9
        go_wp2_with fail
        go_ret
        exact ⟨rfl, HF9.out⟩
  · have hlow1 : bits .and .i64 b 1 = 1 := by rw [hlow, hlb]; rfl
    clear hlow
    go_wp2_with fail
    generalize w4.alloc (.cells #[.int .i64 W, .int .i64 H, .slice (some ⟨g, 0, none⟩) m0 m0] 24) = w5 at *
    go_loopw [6, 7] (fun a _ wr => ∃ y' : Nat, y' ≤ H ∧ a = .int .i64 y' ∧ Fr (fun k => k = g) w5 wr ∧ RowAt wr g m0 W H (cur W (allC true) y' 0)) (fun a _ _ => H - (intOf a).toNat)
    case atStart => exact ⟨0, by omega, rfl, Fr.refl _ _, HR4.out⟩
    case round =>
      obtain ⟨y', hyH, rfl, hfr, hrr⟩ := hrel
      have HFr : Hid (Fr (fun k => k = g) w5 wr) := hfr
      have HRr : Hid (RowAt wr g m0 W H (cur W (allC true) y' 0)) := hrr
      clear hfr hrr
      by_cases hyy : y' < H
      · go_wp2_with fail
        go_loopw [7] (fun a wk => ∃ x' : Nat, x' ≤ W ∧ a = .int .i64 x' ∧ Fr (fun k => k = g) w5 wk ∧ RowAt wk g m0 W H (cur W (allC true) y' x')) (fun a _ => W - (intOf a).toNat)
        case atStart => exact ⟨0, by omega, rfl, HFr.out, HRr.out⟩
        case round =>
          obtain ⟨x', hxW, rfl, hfk, hrk⟩ := hrel
          have HFk : Hid (Fr (fun k => k = g) w5 wr) := hfk
          have HRk : Hid (RowAt wr g m0 W H (cur W (allC true) y' x')) := hrk
          clear hfk hrk
          by_cases hxx : x' < W
          · obtain ⟨z0, z1, z2, zf⟩ := cell_of_three ((HFk.out.block w4.heap.size HL4.out (by have := HG4.out; omega)).trans HB4.out)
            clear zf
            go_wp2_with fail
            refine (HPt.out _ g x' y' hxx hyy HRk.out).mono ?_
            rintro e w8 ⟨rfl, hr8, hf8⟩
            have HF8 : Hid (Fr (fun k => k = g) w5 w8) := HFk.out.trans hf8 (fun _ _ h => h)
            have HR8 : Hid (RowAt w8 g m0 W H (cur W (allC true) y' (x' + 1))) := hr8
            clear hr8 hf8 z0 z1 z2
            go_wp2_with fail
            exact ⟨⟨x' + 1, by omega, congrArg (Value.int .i64) (by omega), HF8.out, HR8.out⟩, by simp only [intOf]; omega⟩
          · have hdx : decide ((x' : Int) < W) = false := decide_eq_false (by omega)
            have HRn : Hid (RowAt wr g m0 W H (cur W (allC true) (y' + 1) 0)) := by
              have h := HRk.out
              rw [show x' = W by omega, cur_row] at h
              exact h
            go_wp2_with fail
            exact ⟨⟨y' + 1, by omega, congrArg (Value.int .i64) (by omega), HFk.out, HRn.out⟩, by simp only [intOf]; omega⟩
      · have hdy : decide ((y' : Int) < H) = false := decide_eq_false (by omega)
        obtain ⟨w6, Hw6⟩ : ∃ w6, w6 = wr := ⟨_, rfl⟩
        subst Hw6
        have HR6 : Hid (RowAt w6 g m0 W H (cur W (allC true) H 0)) := by
          have h := HRr.out
          rw [show y' = H by omega] at h
          exact h
        have HFw : Hid (Fr (fun _ => False) w w6) := (HA.out.trans HF4.out (fun _ _ h => h)).trans HFr.out (fun i hi e => by have := HG4.out; have := (HA.out.trans HA1.out (fun _ _ h => h)).size; omega)
        have HBl : Hid (w4.heap.size < w6.heap.size) := by
          have h1 := HL4.out
          have h2 := HFr.out.size
          exact Nat.lt_of_lt_of_le h1 h2
        have HBk : Hid (w6.heap[w4.heap.size]? = some (.cells #[.int .i64 W, .int .i64 H, .slice (some ⟨g, 0, none⟩) m0 m0] 24 (0, 0))) := (HFr.out.block w4.heap.size HL4.out (by have := HG4.out; omega)).trans HB4.out
        clear HFr HRr
        go_wp2_with fail
        go_loopw [8, 9, 10, 11] (fun a _ _ _ wr => ∃ t : Nat, t ≤ 4 ∧ a = .int .i64 t ∧ Fr (fun _ => False) w6 wr) (fun a _ _ _ _ => 4 - (intOf a).toNat)
        case atStart => exact ⟨0, by omega, rfl, Fr.refl _ _⟩
        case round =>
          obtain ⟨t, ht4, rfl, hfr⟩ := hrel
          have HFr : Hid (Fr (fun _ => False) w6 wr) := hfr
          clear hfr
          by_cases htt : t < 4
          · have hdt : decide ((t : Int) < 4) = true := decide_eq_true (by omega)
            go_wp2_with fail
            go_loopw [9, 10, 11] (fun a _ _ wk => ∃ k : Nat, k ≤ 2 ∧ a = .int .i64 k ∧ Fr (fun _ => False) w6 wk) (fun a _ _ _ => 2 - (intOf a).toNat)
            case atStart => exact ⟨0, by omega, rfl, HFr.out⟩
            case round =>
              obtain ⟨k, hk2, rfl, hfk⟩ := hrel
              have HFk : Hid (Fr (fun _ => False) w6 wr) := hfk
              clear hfk
              by_cases hkk : k < 2
              · obtain ⟨z0, z1, z2, zf⟩ := cell_of_three ((HFk.out.block w4.heap.size HBl.out (fun h => h)).trans HBk.out)
                clear zf
                have HE : Hid (∀ sk, Calls Try.prog 15 #[.agg #[.int .i64 W, .int .i64 H, .slice (some ⟨g, 0, none⟩) m0 m0], .int .i64 t, .bool sk] wr fun e w'' => ∃ g2 n cap, e = .returned (.tuple #[.slice (some ⟨g2, 1, none⟩) n cap, .int .i64 0]) ∧ n ≤ 160 + r ∧ Fr (fun _ => False) wr w'') := fun sk => HEn.out wr g t sk true _ htt (fun a e ha he => by rw [cur_all W _ H a e ha he]; rfl) (HR6.out.kept HFk.out (fun h => h))
                go_wp2_with fail
                refine (HE.out _).mono ?_
                rintro e w8 ⟨g2, n, cap, rfl, hn, hf8⟩
                have HF8 : Hid (Fr (fun _ => False) w6 w8) := HFk.out.trans hf8 (fun _ _ h => h)
                clear hf8 z0 z1 z2
                go_wp2_with fail
                exact ⟨⟨k + 1, by omega, congrArg (Value.int .i64) (by omega), HF8.out⟩, by simp only [intOf]; omega⟩
              · have hdk : decide ((k : Int) < 2) = false := decide_eq_false (by omega)
                go_wp2_with fail
                exact ⟨⟨t + 1, by omega, congrArg (Value.int .i64) (by omega), HFk.out⟩, by simp only [intOf]; omega⟩
          · have hdt : decide ((t : Int) < 4) = false := decide_eq_false (by omega)
            go_wp2_with fail
            refine (wakes7 _).mono ?_
            rintro e w9 ⟨rfl, hf9⟩
            have HF9 : Hid (Fr (fun _ => False) w w9) := (HFw.out.trans HFr.out (fun _ _ h => h)).trans hf9 (fun _ _ h => h)
            clear hf9
            go_wp2_with fail
            go_ret
            exact ⟨rfl, HF9.out⟩


end Go.Proofs.Ytkggdnkmaldmlab
