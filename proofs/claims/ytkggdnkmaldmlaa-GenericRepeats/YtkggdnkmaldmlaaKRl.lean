/- The law 'GenericRepeats'. -/
import Derived.Test.YtkggdnkmaldmlaaKTp
import Derived.Test.YtkggdnkmaldmlaaKRz
import Derived.Test.YtkggdnkmaldmlaaK29
namespace Go.Proofs.Ytkggdnkmaldmlaa
open Go.RowKit

set_option maxRecDepth 100000 in
set_option maxHeartbeats 8000000 in
theorem repeats7_any (x y : Int) (v : Value) (l : List Nat) (ti : Int) (sk : Bool) (w : World) (hx : -9223372036854775808 ≤ x ∧ x ≤ 9223372036854775807) (hy : -9223372036854775808 ≤ y ∧ y ≤ 9223372036854775807) (hv : Seen w v l) (hcap : CapOK v) (hlt : ∀ j : Nat, l[j]?.getD 0 < 18446744073709551616) :
    Calls Try.prog 8 #[.agg #[.int .i64 x, .int .i64 y, v, .int .i64 ti, .bool sk]] w fun e w' => e = .returned (.bool true) ∧ Fr (fun _ => False) w w' := by
  have HMY : Hid (∀ w', Fr (fun _ => False) w w' → Calls Try.prog 22 #[.agg #[.int .i64 x, .int .i64 y, v]] w' fun e w'' => e = .returned (.bool (validB x y l)) ∧ Fr (fun _ => False) w' w'') := fun w' hf => may_any x y v l w' hx hy (hv.kept hf) hlt
  have HBX : Hid (∀ w', Fr (fun _ => False) (w.alloc (.cells #[.int .i64 x, .int .i64 y, v, .int .i64 ti, .bool sk] 28)) w' → w'.cell? ⟨w.heap.size, 0, none⟩ = some (.int .i64 x) ∧ w'.cell? ⟨w.heap.size, 1, none⟩ = some (.int .i64 y) ∧ w'.cell? ⟨w.heap.size, 2, none⟩ = some v ∧ w'.cell? ⟨w.heap.size, 3, none⟩ = some (.int .i64 ti) ∧ w'.cell? ⟨w.heap.size, 4, none⟩ = some (.bool sk)) := fun w' hf => by
    obtain ⟨c0, c1, c2, c3, c4, _⟩ := cell_of_five ((hf.block w.heap.size (by simp) (fun hh => hh)).trans (heap_alloc_new w _))
    exact ⟨c0, c1, c2, c3, c4⟩
  have HV : Hid (validB x y l = true → ∃ (W H : Nat) (P : Nat → Nat → Bool), x = W ∧ y = H ∧ l = render W H P ∧ Bm w v W H P) := fun h => valid_bm h hv hcap hlt
  obtain ⟨ao, cap, hvv, _, _⟩ := hv
  obtain ⟨n0, HN0⟩ : ∃ n0, Hid (n0 = l.length) := ⟨_, rfl⟩
  rw [← HN0.out] at hvv
  subst hvv
  have HA : Hid (Fr (fun _ => False) w (w.alloc (.cells #[.int .i64 x, .int .i64 y, .slice ao n0 cap, .int .i64 ti, .bool sk] 28))) := (Fr.refl _ _).alloc _
  obtain ⟨t, Ht⟩ : ∃ t : Nat, Hid (((t : Nat) : Int) = ti % 4 ∧ t < 4) := ⟨(ti % 4).toNat, by constructor <;> omega⟩
  have hti : bits .and .i64 ti 3 = (t : Int) := by rw [and_three, Ht.out.1]
  clear hx hy hcap hlt
  go_enter Try.func8, Try.ntmps8
  go_wp2_with fail
  generalize w.alloc (.cells #[.int .i64 x, .int .i64 y, .slice ao n0 cap, .int .i64 ti, .bool sk] 28) = w0 at *
  refine (HMY.out _ HA.out).mono ?_
  rintro e w1 ⟨rfl, hf1⟩
  have HF1 : Hid (Fr (fun _ => False) w0 w1) := hf1
  obtain ⟨c0, c1, c2, c3, c4⟩ := HBX.out _ hf1
  clear hf1
  cases hvb : validB x y l
  · go_wp2_with fail
    refine (wakes7 _).mono ?_
    rintro e w2 ⟨rfl, hf2⟩
    have HF2 : Hid (Fr (fun _ => False) w w2) := (HA.out.trans HF1.out (fun _ _ h => h)).trans hf2 (fun _ _ h => h)
    clear hf2
    go_wp2_with fail
    go_ret
    exact ⟨rfl, HF2.out⟩
  · obtain ⟨W, H, P, rfl, rfl, hl, hbm⟩ := HV.out hvb
    by_cases hW : W ≤ 1000
    · have HBm : Hid (∀ w', Fr (fun _ => False) w w' → Bm w' (.slice ao n0 cap) W H P) := fun w' f => hbm.kept f
      have HW1 : Hid (1 ≤ W) := hbm.h1
      have hdW : decide ((1000 : Int) < (W : Int)) = false := decide_eq_false (by omega)
      clear HMY HV hbm hl
      go_wp2_with fail
      refine (small_any w1.heap.size 0 1 1 384000 _ (by omega) ?_).mono ?_
      · intro i hi
        obtain rfl : i = 0 := by omega
        refine ⟨ao, n0, cap, ?_⟩
        have := heap_alloc_new w1 (.cells #[.int .i64 W, .int .i64 H, .slice ao n0 cap] 26)
        unfold World.cell?
        rw [this]; rfl
      rintro e w2 ⟨bb, rfl, q2, hw2⟩
      have HF2 : Hid (Fr (fun _ => False) w0 w2) := by rw [hw2]; exact (HF1.out.alloc _).drewN q2
      clear hw2 c0 c1 c2 c3 c4
      obtain ⟨c0, c1, c2, c3, c4⟩ := HBX.out _ HF2.out
      cases bb
      · go_wp2_with fail
        refine (wakes7 _).mono ?_
        rintro e w3 ⟨rfl, hf3⟩
        have HF3 : Hid (Fr (fun _ => False) w w3) := (HA.out.trans HF2.out (fun _ _ h => h)).trans hf3 (fun _ _ h => h)
        clear hf3
        go_wp2_with fail
        go_ret
        exact ⟨rfl, HF3.out⟩
      · obtain ⟨m1, HM1⟩ : ∃ m1, Hid (m1 = 1 * stride W) := ⟨_, rfl⟩
        obtain ⟨m2, HM2⟩ : ∃ m2, Hid (m2 = 50 * stride W) := ⟨_, rfl⟩
        have HW1k : Hid (W ≤ 1000) := hW
        have HWh1 : Hid (∀ (w' : World), Calls Try.prog 35 #[.int .i64 W, .int .i64 1] w' fun e w'' => ∃ g, e = .returned (.agg #[.int .i64 W, .int .i64 1, .slice (some ⟨g, 0, none⟩) m1 m1]) ∧ RowAt w'' g m1 W 1 (fun _ _ => false) ∧ Fr (fun _ => False) w' w'' ∧ w'.heap.size ≤ g) := fun w' => by
          rw [HM1.out]; exact zwhite_any W 1 w' HW1.out (by decide) (by have := HW1k.out; omega)
        have HWh2 : Hid (∀ (w' : World), Calls Try.prog 35 #[.int .i64 W, .int .i64 50] w' fun e w'' => ∃ g, e = .returned (.agg #[.int .i64 W, .int .i64 50, .slice (some ⟨g, 0, none⟩) m2 m2]) ∧ RowAt w'' g m2 W 50 (fun _ _ => false) ∧ Fr (fun _ => False) w' w'' ∧ w'.heap.size ≤ g) := fun w' => by
          rw [HM2.out]; exact zwhite_any W 50 w' HW1.out (by decide) (by have := HW1k.out; omega)
        have HLy1 : Hid (∀ (w' : World) (g : Nat), Fr (fun _ => False) w w' → w.heap.size ≤ g → RowAt w' g m1 W 1 (fun _ _ => false) → Calls Try.prog 36 #[.agg #[.int .i64 W, .int .i64 1, .slice (some ⟨g, 0, none⟩) m1 m1], .int .i64 0, .int .i64 0, .int .i64 4, .agg #[.int .i64 W, .int .i64 H, .slice ao n0 cap]] w' fun e w'' => e = .returned (.tuple #[]) ∧ RowAt w'' g m1 W 1 P ∧ Fr (fun k => k = g) w' w'') := fun w' g f hg hr => by
          have hb := HBm.out w (Fr.refl _ _)
          have h := lay_clip W 1 g m1 (fun _ _ => false) 0 0 W H _ P w' hr (fun w2 f2 => HBm.out w2 (f.trans f2 (fun i hi e => by omega))) HW1.out (by decide) (by have := HW1k.out; omega) (by omega) (by omega)
          rw [← HM1.out] at h
          refine h.mono ?_
          rintro e w2 ⟨rfl, hr2, hf2⟩
          refine ⟨rfl, hr2.congr (fun a e ha he => ?_), hf2⟩
          have := hb.h2
          unfold laidTo
          rw [if_pos (by omega)]
          rfl
        have HLy2 : Hid (∀ (w' : World) (g1 g k : Nat), k < 50 → g1 ≠ g → RowAt w' g1 m1 W 1 P → RowAt w' g m2 W 50 (fun a e => decide (e < k) && P a 0) → Calls Try.prog 36 #[.agg #[.int .i64 W, .int .i64 50, .slice (some ⟨g, 0, none⟩) m2 m2], .int .i64 0, .int .i64 k, .int .i64 4, .agg #[.int .i64 W, .int .i64 1, .slice (some ⟨g1, 0, none⟩) m1 m1]] w' fun e w'' => e = .returned (.tuple #[]) ∧ RowAt w'' g m2 W 50 (fun a e => decide (e < k + 1) && P a 0) ∧ Fr (fun k => k = g) w' w'') := fun w' g1 g k hk hne hr1 hr => by
          have h := lay_any W 50 g m2 (fun a e => decide (e < k) && P a 0) 0 k W 1 (.slice (some ⟨g1, 0, none⟩) m1 m1) P w' hr (fun w2 f2 => by
            have := (hr1.kept f2 hne).bm HW1.out (by decide) (by have := HW1k.out; omega)
            rwa [← HM1.out] at this) HW1.out (by decide) (by have := HW1k.out; omega) (by omega) (by omega)
          rw [← HM2.out] at h
          refine h.mono ?_
          rintro e w2 ⟨rfl, hr2, hf2⟩
          refine ⟨rfl, hr2.congr (fun a e ha he => ?_), hf2⟩
          unfold laidTo
          by_cases he2 : e = k
          · subst he2
            rw [if_pos (by omega), Nat.sub_self, Nat.sub_zero, decide_eq_true (by omega), Bool.true_and]
          · rw [if_neg (by omega)]
            have : decide (e < k) = decide (e < k + 1) := decide_eq_decide.2 (by omega)
            show (decide (e < k) && P a 0) = _
            rw [this]
        have HEn1 : Hid (∀ (w' : World) (g : Nat), RowAt w' g m1 W 1 P → Calls Try.prog 11 #[.agg #[.int .i64 W, .int .i64 1, .slice (some ⟨g, 0, none⟩) m1 m1], .int .i64 t, .bool true] w' fun e w'' => ∃ g n c, e = .returned (.tuple #[.slice (some ⟨g, 1, none⟩) n c, .int .i64 0]) ∧ SeenAt w'' (.slice (some ⟨g, 1, none⟩) n c) (codedB (sizeT t + 1) (rowsD 0 t W true P 1)) ∧ Fr (fun _ => False) w' w'') := fun w' g hr => by
          have hb := hr.bm HW1.out (by decide) (by have := HW1k.out; omega)
          rw [← HM1.out] at hb
          refine (gencode_ok W 1 _ P t true w' hb Ht.out.2 (by have := HW1k.out; omega)).mono ?_
          rintro e w'' ⟨g, n, c, rfl, h1, h2, _⟩
          exact ⟨g, n, c, rfl, h1, h2⟩
        have HEn2 : Hid (∀ (w' : World) (g : Nat), RowAt w' g m2 W 50 (fun a _ => P a 0) → Calls Try.prog 11 #[.agg #[.int .i64 W, .int .i64 50, .slice (some ⟨g, 0, none⟩) m2 m2], .int .i64 t, .bool true] w' fun e w'' => ∃ g n c, e = .returned (.tuple #[.slice (some ⟨g, 1, none⟩) n c, .int .i64 0]) ∧ SeenAt w'' (.slice (some ⟨g, 1, none⟩) n c) (codedB (sizeT t + 1) (rowsD 0 t W true (fun a _ => P a 0) 50)) ∧ Fr (fun _ => False) w' w'') := fun w' g hr => by
          have hb := hr.bm HW1.out (by decide) (by have := HW1k.out; omega)
          rw [← HM2.out] at hb
          refine (gencode_ok W 50 _ _ t true w' hb Ht.out.2 (by have := HW1k.out; omega)).mono ?_
          rintro e w'' ⟨g, n, c, rfl, h1, h2, _⟩
          exact ⟨g, n, c, rfl, h1, h2⟩
        have HDe : Hid (∀ (w' : World) (g n c : Nat), SeenAt w' (.slice (some ⟨g, 1, none⟩) n c) (codedB (sizeT t + 1) (rowsD 0 t W true (fun a _ => P a 0) 50)) → Calls Try.prog 18 #[.slice (some ⟨g, 1, none⟩) n c, .int .i64 W, .int .i64 50, .int .i64 t, .bool true] w' fun e w'' => ∃ g2 c2, e = .returned (.tuple #[.agg #[.int .i64 W, .int .i64 50, .slice (some ⟨g2, 0, none⟩) m2 c2], .int .i64 0]) ∧ Seen w'' (.slice (some ⟨g2, 0, none⟩) m2 c2) (render W 50 (fun a _ => P a 0)) ∧ Fr (fun _ => False) w' w'') := fun w' g n c hs => by
          have hll := rowsD_length 0 t W true (fun a _ => P a 0) 50
          have hZ := sizeT_le t Ht.out.2
          have hk := HW1k.out
          obtain ⟨_, _, f3⟩ := size_facts HW1.out (show 1 ≤ 50 by decide) (show W * 50 ≤ 1048576 by omega)
          refine (gdecode_ok _ _ W 50 t true w' hs (Or.inr ⟨_, _, _, rfl⟩) (codedB_lt (by omega) (by omega) _ (by omega)) HW1.out (by decide) (by omega) Ht.out.2 (by omega)).mono ?_
          rintro e w2 ⟨g2, cap2, rfl, hr, _, hf⟩
          have := hr.seen f3
          rw [gback W 50 50 t true _ Ht.out.2 (by omega) (Nat.le_refl _), render_congr (fun x y hx hy => cur_all W _ 50 x y hx hy)] at this
          rw [HM2.out]
          exact ⟨g2, cap2, rfl, this, hf⟩
        have HQ : Hid (∀ (w' : World) (g : Nat) (v1 : Value), Seen w' v1 (render W 50 (fun a _ => P a 0)) → RowAt w' g m2 W 50 (fun a _ => P a 0) → Calls Try.prog 21 #[.agg #[.int .i64 W, .int .i64 50, v1], .agg #[.int .i64 W, .int .i64 50, .slice (some ⟨g, 0, none⟩) m2 m2]] w' fun e w'' => e = .returned (.bool true) ∧ Fr (fun _ => False) w' w'') := fun w' g v1 s1 hr => by
          have hk := HW1k.out
          have h := hr.seen (size_facts HW1.out (show 1 ≤ 50 by decide) (show W * 50 ≤ 1048576 by omega)).2.2
          rw [← HM2.out] at h
          exact eqBitmap_same W 50 v1 _ _ w' s1 h
        have HLen : Hid ((codedB (sizeT t + 1) (rowsD 0 t W true (fun a _ => P a 0) 50)).length ≤ (codedB (sizeT t + 1) (rowsD 0 t W true P 1)).length + 8) := repeats_len t W (fun a _ => P a 0) P Ht.out.2 HW1k.out (fun _ _ _ => rfl)
        go_wp2_with fail
        refine (HWh1.out _).mono ?_
        rintro e w3 ⟨g1, rfl, hr3, hf3, hg3⟩
        have HF3 : Hid (Fr (fun _ => False) w0 (w3.alloc (.cells #[.int .i64 W, .int .i64 1, .slice (some ⟨g1, 0, none⟩) m1 m1] 26))) := (HF2.out.trans hf3 (fun _ _ h => h)).alloc _
        have HR3 : Hid (RowAt (w3.alloc (.cells #[.int .i64 W, .int .i64 1, .slice (some ⟨g1, 0, none⟩) m1 m1] 26)) g1 m1 W 1 (fun _ _ => false)) := hr3.kept ((Fr.refl (fun _ => False) w3).alloc _) (fun h => h)
        have HG3 : Hid (w0.heap.size ≤ g1 ∧ g1 < w3.heap.size) := by have := HF2.out.size; exact ⟨by omega, hr3.lt⟩
        have hb3 := heap_alloc_new w3 (.cells #[.int .i64 W, .int .i64 1, .slice (some ⟨g1, 0, none⟩) m1 m1] 26)
        have HB3 : Hid ((w3.alloc (.cells #[.int .i64 W, .int .i64 1, .slice (some ⟨g1, 0, none⟩) m1 m1] 26)).heap[w3.heap.size]? = some (.cells #[.int .i64 W, .int .i64 1, .slice (some ⟨g1, 0, none⟩) m1 m1] 26 (0, 0))) := hb3
        obtain ⟨y0, y1, y2, yf⟩ := cell_of_three hb3
        clear hr3 hf3 hg3 hb3 yf c0 c1 c2 c3 c4
        obtain ⟨c0, c1, c2, c3, c4⟩ := HBX.out _ HF3.out
        go_wp2_with fail
        generalize hwA : w3.alloc (.cells #[.int .i64 W, .int .i64 1, .slice (some ⟨g1, 0, none⟩) m1 m1] 26) = wA at *
        clear hwA
        refine (HLy1.out _ g1 (HA.out.trans HF3.out (fun _ _ h => h)) (by have := HA.out.size; have := HG3.out; omega) HR3.out).mono ?_
        rintro e w4 ⟨rfl, hr4, hf4⟩
        have HF4 : Hid (Fr (fun _ => False) w0 w4) := HF3.out.trans hf4 (fun i hi e => by have := HG3.out; omega)
        have HB4 : Hid (w4.heap[w3.heap.size]? = some (.cells #[.int .i64 W, .int .i64 1, .slice (some ⟨g1, 0, none⟩) m1 m1] 26 (0, 0))) := (hf4.block w3.heap.size (lt_of_block HB3.out) (by have := HG3.out; omega)).trans HB3.out
        have HR4 : Hid (RowAt w4 g1 m1 W 1 P) := hr4
        clear hr4 hf4 y0 y1 y2 c0 c1 c2 c3 c4 HR3 HF3
        obtain ⟨c0, c1, c2, c3, c4⟩ := HBX.out _ HF4.out
        go_wp2_with fail
        refine (HWh2.out _).mono ?_
        rintro e w5 ⟨g2, rfl, hr5, hf5, hg5⟩
        have HF5 : Hid (Fr (fun _ => False) w4 (w5.alloc (.cells #[.int .i64 W, .int .i64 50, .slice (some ⟨g2, 0, none⟩) m2 m2] 26))) := hf5.alloc _
        have HR5 : Hid (RowAt (w5.alloc (.cells #[.int .i64 W, .int .i64 50, .slice (some ⟨g2, 0, none⟩) m2 m2] 26)) g2 m2 W 50 (fun a e => decide (e < 0) && P a 0)) := (hr5.kept ((Fr.refl (fun _ => False) w5).alloc _) (fun h => h)).congr (fun a e _ _ => by simp)
        have HG5 : Hid (w4.heap.size ≤ g2 ∧ g2 < w5.heap.size ∧ g1 < w4.heap.size ∧ w3.heap.size < w4.heap.size) := ⟨hg5, hr5.lt, HR4.out.lt, lt_of_block HB4.out⟩
        have HB5 : Hid ((w5.alloc (.cells #[.int .i64 W, .int .i64 50, .slice (some ⟨g2, 0, none⟩) m2 m2] 26)).heap[w5.heap.size]? = some (.cells #[.int .i64 W, .int .i64 50, .slice (some ⟨g2, 0, none⟩) m2 m2] 26 (0, 0))) := heap_alloc_new w5 _
        clear hr5 hf5 hg5 c0 c1 c2 c3 c4
        go_wp2_with fail
        generalize hwB : w5.alloc (.cells #[.int .i64 W, .int .i64 50, .slice (some ⟨g2, 0, none⟩) m2 m2] 26) = wB at *
        clear hwB
        have HX : Hid (∀ w', Fr (fun k => k = g2) wB w' → (w'.cell? ⟨w3.heap.size, 0, none⟩ = some (.int .i64 W) ∧ w'.cell? ⟨w3.heap.size, 1, none⟩ = some (.int .i64 1) ∧ w'.cell? ⟨w3.heap.size, 2, none⟩ = some (.slice (some ⟨g1, 0, none⟩) m1 m1)) ∧ (w'.cell? ⟨w5.heap.size, 0, none⟩ = some (.int .i64 W) ∧ w'.cell? ⟨w5.heap.size, 1, none⟩ = some (.int .i64 50) ∧ w'.cell? ⟨w5.heap.size, 2, none⟩ = some (.slice (some ⟨g2, 0, none⟩) m2 m2)) ∧ RowAt w' g1 m1 W 1 P ∧ Fr (fun _ => False) w w') := fun w' f => by
          have hg := HG5.out
          have f4 : Fr (fun k => k = g2) w4 w' := (HF5.out.mono (fun _ _ h => h.elim)).trans f (fun _ _ h => h)
          obtain ⟨a0, a1, a2, _⟩ := cell_of_three ((f4.block w3.heap.size (by omega) (by omega)).trans HB4.out)
          obtain ⟨d0, d1, d2, _⟩ := cell_of_three ((f.block w5.heap.size (lt_of_block HB5.out) (by omega)).trans HB5.out)
          refine ⟨⟨a0, a1, a2⟩, ⟨d0, d1, d2⟩, HR4.out.kept f4 (by omega), ?_⟩
          exact (HA.out.trans HF4.out (fun _ _ h => h)).trans f4 (fun i hi e => by have := (HA.out.trans HF4.out (fun _ _ h => h)).size; omega)
        go_loopw [6] (fun a wr => ∃ k : Nat, k ≤ 50 ∧ a = .int .i64 k ∧ RowAt wr g2 m2 W 50 (fun a e => decide (e < k) && P a 0) ∧ Fr (fun k => k = g2) wB wr) (fun a _ => 50 - (intOf a).toNat)
        case atStart => exact ⟨0, by omega, rfl, HR5.out, Fr.refl _ _⟩
        case round =>
          obtain ⟨k, hk, rfl, hrr, hfr⟩ := hrel
          have HFr : Hid (Fr (fun k => k = g2) wB wr) := hfr
          have HRr : Hid (RowAt wr g2 m2 W 50 (fun a e => decide (e < k) && P a 0)) := hrr
          clear hfr hrr
          obtain ⟨⟨a0, a1, a2⟩, ⟨d0, d1, d2⟩, -, -⟩ := HX.out _ HFr.out
          by_cases hk5 : k < 50
          · have HL : Hid (Calls Try.prog 36 #[.agg #[.int .i64 W, .int .i64 50, .slice (some ⟨g2, 0, none⟩) m2 m2], .int .i64 0, .int .i64 k, .int .i64 4, .agg #[.int .i64 W, .int .i64 1, .slice (some ⟨g1, 0, none⟩) m1 m1]] wr fun e w'' => e = .returned (.tuple #[]) ∧ RowAt w'' g2 m2 W 50 (fun a e => decide (e < k + 1) && P a 0) ∧ Fr (fun k => k = g2) wr w'') := HLy2.out wr g1 g2 k hk5 (by have := HG5.out; omega) (HX.out _ HFr.out).2.2.1 HRr.out
            have hdk : decide ((k : Int) < 50) = true := decide_eq_true (by omega)
            go_wp2_with fail
            refine HL.out.mono ?_
            rintro e w6 ⟨rfl, hr6, hf6⟩
            have HR6 : Hid (RowAt w6 g2 m2 W 50 (fun a e => decide (e < k + 1) && P a 0)) := hr6
            have HF6 : Hid (Fr (fun k => k = g2) wB w6) := HFr.out.trans hf6 (fun _ _ h => h)
            clear hr6 hf6 HL
            go_wp2_with fail
            exact ⟨⟨k + 1, by omega, by rw [Int.natCast_add]; rfl, HR6.out, HF6.out⟩, by simp only [intOf]; omega⟩
          · have hk50 : k = 50 := by omega
            subst hk50
            have HRr2 : Hid (RowAt wr g2 m2 W 50 (fun a _ => P a 0)) := HRr.out.congr (fun a e _ he => by show (decide (e < 50) && P a 0) = _; rw [decide_eq_true he, Bool.true_and])
            have HXr : Hid (∀ w', Fr (fun _ => False) wr w' → (w'.cell? ⟨w3.heap.size, 0, none⟩ = some (.int .i64 W) ∧ w'.cell? ⟨w3.heap.size, 1, none⟩ = some (.int .i64 1) ∧ w'.cell? ⟨w3.heap.size, 2, none⟩ = some (.slice (some ⟨g1, 0, none⟩) m1 m1)) ∧ (w'.cell? ⟨w5.heap.size, 0, none⟩ = some (.int .i64 W) ∧ w'.cell? ⟨w5.heap.size, 1, none⟩ = some (.int .i64 50) ∧ w'.cell? ⟨w5.heap.size, 2, none⟩ = some (.slice (some ⟨g2, 0, none⟩) m2 m2)) ∧ RowAt w' g1 m1 W 1 P ∧ RowAt w' g2 m2 W 50 (fun a _ => P a 0) ∧ Fr (fun _ => False) w w') := fun w' f => by
              obtain ⟨h1, h2, h3, h4⟩ := HX.out w' (HFr.out.trans f (fun _ _ h => h.elim))
              exact ⟨h1, h2, h3, HRr2.out.kept f (fun h => h), h4⟩
            have HE1 : Hid (Calls Try.prog 11 #[.agg #[.int .i64 W, .int .i64 1, .slice (some ⟨g1, 0, none⟩) m1 m1], .int .i64 t, .bool true] wr fun e w'' => ∃ g n c, e = .returned (.tuple #[.slice (some ⟨g, 1, none⟩) n c, .int .i64 0]) ∧ SeenAt w'' (.slice (some ⟨g, 1, none⟩) n c) (codedB (sizeT t + 1) (rowsD 0 t W true P 1)) ∧ Fr (fun _ => False) wr w'') := HEn1.out wr g1 (HXr.out wr (Fr.refl _ _)).2.2.1
            go_wp2_with fail
            refine HE1.out.mono ?_
            rintro e w6 ⟨h6, n6, c6, rfl, hs6, hf6⟩
            have HF6 : Hid (Fr (fun _ => False) wr w6) := hf6
            have HN6 : Hid (n6 = (codedB (sizeT t + 1) (rowsD 0 t W true P 1)).length ∧ n6 ≤ 140737488355328) := by
              obtain ⟨_, _, e, hle, _⟩ := hs6
              simp only [Value.slice.injEq] at e
              exact ⟨e.2.1, by rw [e.2.1]; exact hle⟩
            clear hf6 hs6 HE1 a0 a1 a2 d0 d1 d2
            obtain ⟨⟨a0, a1, a2⟩, ⟨d0, d1, d2⟩, -, -, -⟩ := HXr.out _ HF6.out
            have HE2 : Hid (Calls Try.prog 11 #[.agg #[.int .i64 W, .int .i64 50, .slice (some ⟨g2, 0, none⟩) m2 m2], .int .i64 t, .bool true] w6 fun e w'' => ∃ g n c, e = .returned (.tuple #[.slice (some ⟨g, 1, none⟩) n c, .int .i64 0]) ∧ SeenAt w'' (.slice (some ⟨g, 1, none⟩) n c) (codedB (sizeT t + 1) (rowsD 0 t W true (fun a _ => P a 0) 50)) ∧ Fr (fun _ => False) w6 w'') := HEn2.out w6 g2 (HXr.out w6 HF6.out).2.2.2.1
            go_wp2_with fail
            refine HE2.out.mono ?_
            rintro e w7 ⟨h7, n7, c7, rfl, hs7, hf7⟩
            have HF7 : Hid (Fr (fun _ => False) wr w7) := HF6.out.trans hf7 (fun _ _ h => h)
            have HN7 : Hid (n7 = (codedB (sizeT t + 1) (rowsD 0 t W true (fun a _ => P a 0) 50)).length) := by
              obtain ⟨_, _, e, hle, _⟩ := hs7
              simp only [Value.slice.injEq] at e
              exact e.2.1
            have HD7 : Hid (Calls Try.prog 18 #[.slice (some ⟨h7, 1, none⟩) n7 c7, .int .i64 W, .int .i64 50, .int .i64 t, .bool true] w7 fun e w'' => ∃ g2 c2, e = .returned (.tuple #[.agg #[.int .i64 W, .int .i64 50, .slice (some ⟨g2, 0, none⟩) m2 c2], .int .i64 0]) ∧ Seen w'' (.slice (some ⟨g2, 0, none⟩) m2 c2) (render W 50 (fun a _ => P a 0)) ∧ Fr (fun _ => False) w7 w'') := HDe.out w7 h7 n7 c7 hs7
            clear hf7 hs7 HE2 a0 a1 a2 d0 d1 d2
            obtain ⟨⟨a0, a1, a2⟩, ⟨d0, d1, d2⟩, -, -, -⟩ := HXr.out _ HF7.out
            go_wp2_with fail
            refine HD7.out.mono ?_
            rintro e w8 ⟨g8, c8, rfl, hs8, hf8⟩
            have HF8 : Hid (Fr (fun _ => False) wr (w8.alloc (.cells #[.int .i64 W, .int .i64 50, .slice (some ⟨g8, 0, none⟩) m2 c8] 26))) := (HF7.out.trans hf8 (fun _ _ h => h)).alloc _
            have hq8 : Hid (Calls Try.prog 21 #[.agg #[.int .i64 W, .int .i64 50, .slice (some ⟨g8, 0, none⟩) m2 c8], .agg #[.int .i64 W, .int .i64 50, .slice (some ⟨g2, 0, none⟩) m2 m2]] (w8.alloc (.cells #[.int .i64 W, .int .i64 50, .slice (some ⟨g8, 0, none⟩) m2 c8] 26)) fun e w'' => e = .returned (.bool true) ∧ Fr (fun _ => False) (w8.alloc (.cells #[.int .i64 W, .int .i64 50, .slice (some ⟨g8, 0, none⟩) m2 c8] 26)) w'') := HQ.out _ g2 _ (hs8.kept ((Fr.refl (fun _ => False) w8).alloc _)) (HXr.out _ HF8.out).2.2.2.1
            obtain ⟨x0, x1, x2, xf⟩ := cell_of_three (heap_alloc_new w8 (.cells #[.int .i64 W, .int .i64 50, .slice (some ⟨g8, 0, none⟩) m2 c8] 26))
            clear hs8 hf8 HD7 a0 a1 a2 d0 d1 d2 xf
            obtain ⟨⟨a0, a1, a2⟩, ⟨d0, d1, d2⟩, -, -, -⟩ := HXr.out _ HF8.out
            have hn6 : n6 ≤ 140737488355328 := HN6.out.2
            have hdl : decide ((n7 : Int) ≤ (n6 : Int) + 8) = true := decide_eq_true (by have := HN6.out.1; have := HN7.out; have := HLen.out; omega)
            go_wp2_with fail
            generalize w8.alloc (.cells #[.int .i64 W, .int .i64 50, .slice (some ⟨g8, 0, none⟩) m2 c8] 26) = w9 at *
            refine hq8.out.mono ?_
            rintro e w10 ⟨rfl, hf10⟩
            have HF10 : Hid (Fr (fun _ => False) wr w10) := HF8.out.trans hf10 (fun _ _ h => h)
            clear hf10 hq8
            go_wp2_with fail
            refine (wakes7 _).mono ?_
            rintro e w11 ⟨rfl, hf11⟩
            have HF11 : Hid (Fr (fun _ => False) w w11) := (HXr.out _ (HF10.out.trans hf11 (fun _ _ h => h))).2.2.2.2
            clear hf11
            go_wp2_with fail
            go_ret
            exact ⟨rfl, HF11.out⟩
    · have hdW : decide ((1000 : Int) < (W : Int)) = true := decide_eq_true (by omega)
      clear HMY HV hbm hl
      go_wp2_with fail
      refine (wakes7 _).mono ?_
      rintro e w2 ⟨rfl, hf2⟩
      have HF2 : Hid (Fr (fun _ => False) w w2) := (HA.out.trans HF1.out (fun _ _ h => h)).trans hf2 (fun _ _ h => h)
      clear hf2
      go_wp2_with fail
      go_ret
      exact ⟨rfl, HF2.out⟩

end Go.Proofs.Ytkggdnkmaldmlaa
