/- Package context: At. -/
import Derived.Test.YtkggdnkmaldmlabKBm
namespace Go.Proofs.Ytkggdnkmaldmlab
open Go.RowKit

theorem cell_of_six {w : World} {b : Nat} {x y z u v s : Value} {t : TypeId} (h : w.heap[b]? = some (.cells #[x, y, z, u, v, s] t (0, 0))) :
    w.cell? ⟨b, 0, none⟩ = some x ∧ w.cell? ⟨b, 1, none⟩ = some y ∧ w.cell? ⟨b, 2, none⟩ = some z ∧ w.cell? ⟨b, 3, none⟩ = some u ∧ w.cell? ⟨b, 4, none⟩ = some v ∧ w.cell? ⟨b, 5, none⟩ = some s := by
  refine ⟨?_, ?_, ?_, ?_, ?_, ?_⟩ <;> simp [World.cell?, h]
theorem cell_of_two {w : World} {b : Nat} {x y : Value} {t : TypeId} (h : w.heap[b]? = some (.cells #[x, y] t (0, 0))) :
    w.cell? ⟨b, 0, none⟩ = some x ∧ w.cell? ⟨b, 1, none⟩ = some y := by
  refine ⟨?_, ?_⟩ <;> simp [World.cell?, h]

set_option maxRecDepth 100000 in
set_option maxHeartbeats 2000000 in
theorem at_ok (W H : Nat) (v : Value) (P : Nat → Nat → Bool) (t : Nat) (x y : Int) (w : World) (hb : Bm w v W H P) (ht : t < 4) (hx : -9223372036854775808 ≤ x ∧ x ≤ 9223372036854775807) (hy : -9223372036854775808 ≤ y ∧ y ≤ 9223372036854775807) :
    Calls Try.prog 51 #[.agg #[.int .i64 W, .int .i64 H, v], .int .i64 t, .int .i64 x, .int .i64 y] w fun e w' => e = .returned (.tuple #[.int .i64 (ctx (pixI W H P) t x y : Nat), .int .i64 0]) ∧ Fr (fun _ => False) w w' := by
  have HT : Hid (t < 4) := ht
  have HB : Hid (∀ w', Fr (fun _ => False) w w' → Bm w' v W H P) := fun w' f => hb.kept f
  obtain ⟨f1, f2, f3⟩ := size_facts hb.h1 hb.h2 hb.h3
  have HNX : Hid (∀ w' : World, Calls Try.prog 54 #[.int .i64 x, .int .i64 W] w' fun e w'' => e = .returned (.bool (decide (-4 ≤ x ∧ x ≤ W + 4))) ∧ w'' = w') := fun w' => isNear_any x W w' hx f1 _ rfl
  have HNY : Hid (∀ w' : World, Calls Try.prog 54 #[.int .i64 y, .int .i64 H] w' fun e w'' => e = .returned (.bool (decide (-4 ≤ y ∧ y ≤ H + 4))) ∧ w'' = w') := fun w' => isNear_any y H w' hy f2 _ rfl
  have HW : Hid (W ≤ 1048576 ∧ H ≤ 1048576) := ⟨f1, f2⟩
  have HX : Hid (-9223372036854775808 ≤ x ∧ x ≤ 9223372036854775807) := hx
  have HY : Hid (-9223372036854775808 ≤ y ∧ y ≤ 9223372036854775807) := hy
  obtain ⟨ao, cap, rfl, _, _⟩ := hb.seen
  have HBX : Hid (∀ w', Fr (fun _ => False) (w.alloc (.cells #[.int .i64 W, .int .i64 H, .slice ao (render W H P).length cap] 24)) w' → w'.cell? ⟨w.heap.size, 0, none⟩ = some (.int .i64 W) ∧ w'.cell? ⟨w.heap.size, 1, none⟩ = some (.int .i64 H) ∧ w'.cell? ⟨w.heap.size, 2, none⟩ = some (.slice ao (render W H P).length cap)) := fun w' hf => by
    have hB : w'.heap[w.heap.size]? = some (.cells #[.int .i64 W, .int .i64 H, .slice ao (render W H P).length cap] 24 (0, 0)) := by
      rw [hf.block _ (by simp) (fun hh => hh)]; exact heap_alloc_new _ _
    obtain ⟨c0, c1, c2, _⟩ := cell_of_three hB
    exact ⟨c0, c1, c2⟩
  generalize (render W H P).length = n at *
  have HA : Hid (Fr (fun _ => False) w (w.alloc (.cells #[.int .i64 W, .int .i64 H, .slice ao n cap] 24))) := (Fr.refl _ _).alloc _
  clear hb ht hx hy f1 f2 f3
  go_enter Try.func51, Try.ntmps51
  go_wp2_with fail
  generalize w.alloc (.cells #[.int .i64 W, .int .i64 H, .slice ao n cap] 24) = w0 at *
  refine (spansOf_ok t HT.out _).mono ?_
  rintro e w1 ⟨rfl, hf1⟩
  have HF1 : Hid (Fr (fun _ => False) w0 (w1.alloc (.cells #[.int .i64 (fstS t 0), .int .i64 (lstS t 0), .int .i64 (fstS t 1), .int .i64 (lstS t 1), .int .i64 (fstS t 2), .int .i64 (lstS t 2)] 96))) := hf1.alloc _
  obtain ⟨c0, c1, c2⟩ := HBX.out _ HF1.out
  have HSX : Hid (∀ w', Fr (fun _ => False) (w1.alloc (.cells #[.int .i64 (fstS t 0), .int .i64 (lstS t 0), .int .i64 (fstS t 1), .int .i64 (lstS t 1), .int .i64 (fstS t 2), .int .i64 (lstS t 2)] 96)) w' → w'.cell? ⟨w1.heap.size, 0, none⟩ = some (.int .i64 (fstS t 0)) ∧ w'.cell? ⟨w1.heap.size, 1, none⟩ = some (.int .i64 (lstS t 0)) ∧ w'.cell? ⟨w1.heap.size, 2, none⟩ = some (.int .i64 (fstS t 1)) ∧ w'.cell? ⟨w1.heap.size, 3, none⟩ = some (.int .i64 (lstS t 1)) ∧ w'.cell? ⟨w1.heap.size, 4, none⟩ = some (.int .i64 (fstS t 2)) ∧ w'.cell? ⟨w1.heap.size, 5, none⟩ = some (.int .i64 (lstS t 2))) := fun w' hf => by
    have hB : w'.heap[w1.heap.size]? = some (.cells #[.int .i64 (fstS t 0), .int .i64 (lstS t 0), .int .i64 (fstS t 1), .int .i64 (lstS t 1), .int .i64 (fstS t 2), .int .i64 (lstS t 2)] 96 (0, 0)) := by
      rw [hf.block _ (by simp) (fun hh => hh)]; exact heap_alloc_new _ _
    exact cell_of_six hB
  clear hf1
  unfold spansV
  go_wp2_with fail
  generalize w1.alloc (.cells #[.int .i64 (fstS t 0), .int .i64 (lstS t 0), .int .i64 (fstS t 1), .int .i64 (lstS t 1), .int .i64 (fstS t 2), .int .i64 (lstS t 2)] 96) = w2 at *
  refine (HB.out _ (HA.out.trans HF1.out (fun _ _ h => h))).check.mono ?_
  rintro e w3 ⟨rfl, hf3⟩
  have HF3 : Hid (Fr (fun _ => False) w0 w3) := HF1.out.trans hf3 (fun _ _ h => h)
  clear c0 c1 c2
  obtain ⟨c0, c1, c2⟩ := HBX.out _ HF3.out
  obtain ⟨s0, s1, s2, s3, s4, s5⟩ := HSX.out _ hf3
  clear hf3 HF1 HSX
  go_wp2_with fail
  refine (HNX.out _).mono ?_
  rintro e w4 ⟨rfl, hw4⟩
  obtain rfl := hw4
  by_cases hnx : -4 ≤ x ∧ x ≤ W + 4
  · rw [decide_eq_true hnx]
    go_wp2_with fail
    refine (HNY.out _).mono ?_
    rintro e w5 ⟨rfl, hw5⟩
    obtain rfl := hw5
    by_cases hny : -4 ≤ y ∧ y ≤ H + 4
    · rw [decide_eq_true hny]
      go_wp2_with fail
      go_loopw [12, 13, 14, 15, 16, 43] (fun s _ _ _ _ j wr => ∃ k : Nat, k ≤ 3 ∧ s = .int .i64 (ctxK (pixI W H P) t x y k : Nat) ∧ j = .int .i64 k ∧ Fr (fun _ => False) w0 wr) (fun _ _ _ _ _ j _ => 3 - (intOf j).toNat)
      case atStart => exact ⟨0, Nat.zero_le _, rfl, rfl, HF3.out⟩
      case round =>
        obtain ⟨k, hk, rfl, rfl, hfr⟩ := hrel
        have HFr : Hid (Fr (fun _ => False) w0 wr) := hfr
        clear c0 c1 c2 s0 s1 s2 s3 s4 s5
        by_cases hlt : k < 3
        · have hsf := span_facts t k HT.out hlt
          have hix := spans_index wr t k hlt
          have HAL : Hid (Fr (fun _ => False) w0 (wr.alloc (.cells #[.int .i64 (fstS t k), .int .i64 (lstS t k)] 95))) := hfr.alloc _
          obtain ⟨c0, c1, c2⟩ := HBX.out _ HAL.out
          have HSB : Hid (∀ w', Fr (fun _ => False) (wr.alloc (.cells #[.int .i64 (fstS t k), .int .i64 (lstS t k)] 95)) w' → w'.cell? ⟨wr.heap.size, 0, none⟩ = some (.int .i64 (fstS t k)) ∧ w'.cell? ⟨wr.heap.size, 1, none⟩ = some (.int .i64 (lstS t k))) := fun w' hf => by
            have hB : w'.heap[wr.heap.size]? = some (.cells #[.int .i64 (fstS t k), .int .i64 (lstS t k)] 95 (0, 0)) := by
              rw [hf.block _ (by simp) (fun hh => hh)]; exact heap_alloc_new _ _
            exact cell_of_two hB
          have hw1 : IntKind.i64.wrap (y - 2) = y - 2 := by rw [IntKind.wrap_i64]; have := HW.out; omega
          have hw2 : IntKind.i64.wrap (y - 2 + (k : Int)) = y - 2 + (k : Int) := by rw [IntKind.wrap_i64]; have := HW.out; omega
          have HR : Hid (∀ w', Fr (fun _ => False) w0 w' → Calls Try.prog 55 #[.agg #[.int .i64 W, .int .i64 H, .slice ao n cap], .int .i64 (y - 2 + (k : Int))] w' fun e w'' => (∃ v', e = .returned v' ∧ ∀ u, Seen u (.slice ao n cap) (render W H P) → Seen u v' (rowL W H P (y - 2 + (k : Int)))) ∧ Fr (fun _ => False) w' w'') := fun w' hf => (HB.out _ (HA.out.trans hf (fun _ _ h => h))).row _ (by have := HW.out; omega)
          have HLF : Hid (lstS t k = fstS t k + cntS t k - 1 ∧ -4 ≤ fstS t k ∧ fstS t k ≤ 0 ∧ cntS t k ≤ 7) := by refine ⟨?_, ?_, ?_, ?_⟩ <;> omega
          have HG : Hid (∀ j, j ≤ cntS t k → gathN (fun j => pixI W H P (x + fstS t k + j) (y - 2 + k)) j (ctxK (pixI W H P) t x y k) < 8388608) := fun j hj => by
            have h1 := gathN_lt (fun j => pixI W H P (x + fstS t k + j) (y - 2 + k)) (fun _ => pixI_le _ _ _ _ _) _ _ (ctxK_lt (pixI W H P) (pixI_le W H P) t x y k) j
            have h2 := bitsK_le t k HT.out (by omega)
            have h3 : 2 ^ (bitsK t k + j) ≤ 2 ^ 23 := Nat.pow_le_pow_right (by omega) (by have := HLF.out; omega)
            omega
          have HG1 : Hid (gathN (fun j => pixI W H P (x + fstS t k + j) (y - 2 + k)) (cntS t k) (ctxK (pixI W H P) t x y k) = ctxK (pixI W H P) t x y (k + 1)) := rfl
          have HG0 : Hid (gathN (fun j => pixI W H P (x + fstS t k + j) (y - 2 + k)) 0 (ctxK (pixI W H P) t x y k) = ctxK (pixI W H P) t x y k) := rfl
          clear hsf
          generalize fstS t k = F at *
          generalize lstS t k = L at *
          generalize cntS t k = c at *
          clear hfr
          go_wp2_with fail
          refine (HR.out _ HAL.out).mono ?_
          rintro e w6 ⟨⟨v', rfl, hs6⟩, hf6⟩
          have HF6 : Hid (Fr (fun _ => False) w0 w6) := HAL.out.trans hf6 (fun _ _ h => h)
          replace hs6 := hs6 _ (HB.out _ (HA.out.trans HF6.out (fun _ _ h => h))).seen
          have HPX : Hid (∀ z : Int, -9223372036854775808 ≤ z ∧ z ≤ 9223372036854775807 → Calls Try.prog 56 #[v', .int .i64 z] w6 fun e w' => e = .returned (.int .i64 (pixI W H P z (y - 2 + k) : Nat)) ∧ w' = w6) := fun z hz => row_pix hs6 HW.out.1 z hz
          obtain ⟨b0, b1⟩ := HSB.out _ hf6
          clear hs6 hf6 c0 c1 c2
          go_wp2_with fail
          go_loopw [12, 16] (fun s j wi => ∃ m : Nat, m ≤ c ∧ s = .int .i64 (gathN (fun j => pixI W H P (x + F + j) (y - 2 + k)) m (ctxK (pixI W H P) t x y k) : Nat) ∧ j = .int .i64 (F + m) ∧ wi = w6) (fun _ j _ => (L + 1 - intOf j).toNat)
          case atStart => exact ⟨0, Nat.zero_le _, by rw [HG0.out], congrArg (Value.int .i64) (by omega), rfl⟩
          case round =>
            obtain ⟨m, hm, rfl, rfl, hwi⟩ := hrel
            subst hwi
            have hlf := HLF.out
            have hbm := HG.out m hm
            by_cases hmc : m < c
            · have HST : Hid (gathN (fun j => pixI W H P (x + F + j) (y - 2 + k)) (m + 1) (ctxK (pixI W H P) t x y k) = 2 * gathN (fun j => pixI W H P (x + F + j) (y - 2 + k)) m (ctxK (pixI W H P) t x y k) + pixI W H P (x + (F + m)) (y - 2 + k)) := by rw [← Int.add_assoc]; rfl
              have hpl := pixI_le W H P (x + (F + m)) (y - 2 + k)
              have hd : decide (F + (m : Int) ≤ L) = true := decide_eq_true (by omega)
              have hw3 : IntKind.i64.wrap (x + (F + (m : Int))) = x + (F + (m : Int)) := by rw [IntKind.wrap_i64]; have := HW.out; omega
              have HZ : Hid (-9223372036854775808 ≤ x + (F + (m : Int)) ∧ x + (F + (m : Int)) ≤ 9223372036854775807) := by have := HW.out; exact ⟨by omega, by omega⟩
              have hw4 : IntKind.i64.wrap (F + (m : Int) + 1) = F + (m : Int) + 1 := by rw [IntKind.wrap_i64]; omega
              generalize gathN (fun j => pixI W H P (x + F + j) (y - 2 + k)) m (ctxK (pixI W H P) t x y k) = g at *
              have hw5 : IntKind.i64.wrap ((g : Int) * 2) = (g : Int) * 2 := by rw [IntKind.wrap_i64]; omega
              have HO := bor64_one g (pixI W H P (x + (F + m)) (y - 2 + k)) (by omega) hpl
              clear hpl hlf hbm
              go_wp2_with fail
              refine (HPX.out _ HZ.out).mono ?_
              rintro e w7 ⟨rfl, hw7⟩
              subst hw7
              go_wp2_with fail
              go_roundw
              case rel => exact ⟨m + 1, by omega, congrArg (Value.int .i64) (by rw [HST.out]; first | exact HO | rfl), congrArg (Value.int .i64) (by omega), trivial⟩
              case measure => have := HLF.out; simp [intOf]; omega
            · obtain rfl : m = c := by omega
              have hd : decide (F + (m : Int) ≤ L) = false := decide_eq_false (by omega)
              rw [HG1.out]
              clear hlf hbm
              go_wp2_with fail
              go_roundw
              case rel => exact ⟨k + 1, by omega, rfl, congrArg (Value.int .i64) (by omega), HF6.out⟩
              case measure => simp [intOf]; omega
        · obtain rfl : k = 3 := by omega
          go_wp2_with fail
          go_ret2
          exact ⟨rfl, HA.out.trans HFr.out (fun _ _ h => h)⟩
    · rw [decide_eq_false hny]
      have HE : Hid (ctx (pixI W H P) t x y = 0) := ctx_far W H P t x y HT.out (by omega)
      clear hnx hny
      go_wp2_with fail
      go_ret2
      exact ⟨by rw [HE.out]; rfl, HA.out.trans HF3.out (fun _ _ h => h)⟩
  · rw [decide_eq_false hnx]
    have HE : Hid (ctx (pixI W H P) t x y = 0) := ctx_far W H P t x y HT.out (by omega)
    clear hnx
    go_wp2_with fail
    go_ret2
    exact ⟨by rw [HE.out]; rfl, HA.out.trans HF3.out (fun _ _ h => h)⟩

end Go.Proofs.Ytkggdnkmaldmlab
