/- 'May': may a bitmap be, by the document's own answer? -/
import Derived.Test.YtgpciopoionmeaaCheck
namespace Go.Proofs.Ytgpciopoionmeaa
open Go.RowKit

set_option maxRecDepth 100000 in
set_option maxHeartbeats 1000000 in
theorem zSize_any (x y : Int) (w : World) (hx : -9223372036854775808 ≤ x ∧ x ≤ 9223372036854775807) (hy : -9223372036854775808 ≤ y ∧ y ≤ 9223372036854775807) :
    Calls Try.prog 16 #[.int .i64 x, .int .i64 y] w fun e w' => e = .returned (.bool (sizeOK x y)) ∧ w' = w := by
  go_enter Try.func16, Try.ntmps16
  by_cases h0 : 1 ≤ x
  · by_cases h1 : 1 ≤ y
    · by_cases h2 : x ≤ 1048576
      · go_wp2
        go_ret
        refine ⟨?_, rfl⟩
        have : decide (y ≤ 1048576 / x) = sizeOK x y := by
          rw [sizeOK_of y x h1 h0]; unfold sizeOK; rw [decide_eq_decide, Int.mul_comm y x]; omega
        rw [← this]; rfl
      · go_wp2
        go_ret
        refine ⟨?_, rfl⟩
        have : sizeOK x y = false := by
          unfold sizeOK
          refine decide_eq_false ?_
          rintro ⟨_, _, h3⟩
          have : x * 1 ≤ x * y := Int.mul_le_mul_of_nonneg_left h1 (by omega)
          omega
        rw [this]; rfl
    · go_wp2
      go_ret
      exact ⟨by simp [sizeOK]; omega, rfl⟩
  · go_wp2
    go_ret
    exact ⟨by simp [sizeOK]; omega, rfl⟩


theorem shl_zero (x r : Nat) (hr : r < 64) (h0 : 0 < r) : x * 2 ^ r % 18446744073709551616 = 0 ↔ x % 2 ^ (64 - r) = 0 := by
  have e : (18446744073709551616 : Nat) = 2 ^ (64 - r) * 2 ^ r := by rw [← Nat.pow_add, show 64 - r + r = 64 from by omega]
  rw [e, Nat.mul_mod_mul_right]
  have : 0 < 2 ^ r := Nat.two_pow_pos r
  constructor
  · intro h
    rcases Nat.mul_eq_zero.1 h with h | h
    · exact h
    · omega
  · intro h; rw [h]; simp

set_option maxRecDepth 100000 in
set_option maxHeartbeats 2000000 in
theorem may_any (x y : Int) (v : Value) (l : List Nat) (w : World) (hx : -9223372036854775808 ≤ x ∧ x ≤ 9223372036854775807) (hy : -9223372036854775808 ≤ y ∧ y ≤ 9223372036854775807) (hv : Seen w v l) (hlt : ∀ j : Nat, l[j]?.getD 0 < 18446744073709551616) :
    Calls Try.prog 21 #[.agg #[.int .i64 x, .int .i64 y, v]] w fun e w' => e = .returned (.bool (validB x y l)) ∧ Fr (fun _ => False) w w' := by
  have HLT : Hid (∀ j : Nat, l[j]?.getD 0 < 18446744073709551616) := hlt
  clear hlt
  obtain ⟨ao, cap, rfl, hll, hcc⟩ := hv
  have HCC : Hid (l ≠ [] → ∃ b off, ao = some ⟨b, off, none⟩ ∧ ∀ j, j < l.length → w.cell? ⟨b, off + j, none⟩ = some (.int .u64 (l[j]?.getD 0 : Nat))) := hcc
  clear hcc
  have HBX : Hid (∀ w', Fr (fun _ => False) (w.alloc (.cells #[.int .i64 x, .int .i64 y, .slice ao l.length cap] 25)) w' → w'.cell? ⟨w.heap.size, 0, none⟩ = some (.int .i64 x) ∧ w'.cell? ⟨w.heap.size, 1, none⟩ = some (.int .i64 y) ∧ w'.cell? ⟨w.heap.size, 2, none⟩ = some (.slice ao l.length cap)) := fun w' hf => by
    have hB : w'.heap[w.heap.size]? = some (.cells #[.int .i64 x, .int .i64 y, .slice ao l.length cap] 25 (0, 0)) := by
      rw [hf.block _ (by simp) (fun hh => hh)]; exact heap_alloc_new _ _
    obtain ⟨c0, c1, c2, _⟩ := cell_of_three hB
    exact ⟨c0, c1, c2⟩
  by_cases hs : sizeOK x y = true
  · have hss := hs
    unfold sizeOK at hss
    obtain ⟨h1, h2, h3⟩ := of_decide_eq_true hss
    obtain ⟨W, rfl⟩ : ∃ W : Nat, x = W := ⟨x.toNat, by omega⟩
    obtain ⟨H, rfl⟩ : ∃ H : Nat, y = H := ⟨y.toNat, by omega⟩
    have h3' : W * H ≤ 1048576 := by have := h3; rw [← Int.natCast_mul] at this; omega
    obtain ⟨f1, f2, f3⟩ := size_facts (show 1 ≤ W by omega) (show 1 ≤ H by omega) h3'
    rw [validB_nat W H l hs]
    have hS := stride_pos (show 0 < W by omega)
    have hSb : stride W ≤ 1048576 := by unfold stride; omega
    clear hss h3 h3'
    have hm1 : (H : Int) * (stride W : Int) = ((H * stride W : Nat) : Int) := by push_cast; rfl
    have HZ : Hid (∀ w' : World, Calls Try.prog 16 #[.int .i64 W, .int .i64 H] w' fun e w'' => e = .returned (.bool true) ∧ w'' = w') := fun w' => by
      have := zSize_any W H w' hx hy
      rw [hs] at this
      exact this
    have HWD : Hid (∀ w' : World, Calls Try.prog 44 #[.int .i64 W] w' fun e w'' => e = .returned (.int .i64 (stride W : Nat)) ∧ w'' = w') := fun w' => words_any W w' f1
    obtain ⟨n, hn⟩ : ∃ n, n = l.length := ⟨_, rfl⟩
    rw [← hn] at hll HBX ⊢
    have HN : Hid (n = l.length) := hn
    clear hn
    obtain ⟨N, hNN⟩ : ∃ N, N = H * stride W := ⟨_, rfl⟩
    rw [← hNN] at hm1 f3 ⊢
    have HNN : Hid (N = H * stride W) := hNN
    clear hNN
    have g0 : IntKind.i64.wrap (N : Int) = (N : Int) := by rw [IntKind.wrap_i64]; omega
    by_cases hlen : n = N
    · have hne : ((n : Int) != (N : Int)) = false := by simp [hlen]
      rw [decide_eq_true hlen, Bool.true_and]
      have HLEN : Hid (n = N) := hlen
      clear hlen
      by_cases hmod : W % 64 = 0
      · have hm0 : ((W : Int) % 64 == 0) = true := by simp; omega
        have HBT : Hid (decide (∀ j, j < H → rowOK W l j) = true) := decide_eq_true fun j _ => by
          unfold rowOK
          rw [show 64 * stride W - W = 0 from by unfold stride; omega]
          exact Nat.mod_one _
        clear hmod
        go_enter Try.func21, Try.ntmps21
        go_wp2_with fail
        go_region_held3 (fun w' => w'.cell? ⟨w.heap.size, 0, none⟩ = some (.int .i64 W) ∧ w'.cell? ⟨w.heap.size, 1, none⟩ = some (.int .i64 H) ∧ w'.cell? ⟨w.heap.size, 2, none⟩ = some (.slice ao n cap)) (first | exact HBX.out _ ((Fr.refl _ _).drew) | exact HBX.out _ ((Fr.refl _ _).drewN _)) (first | (go_at_call 16; refine (HZ.out _).mono ?_; rintro e w4 ⟨rfl, rfl⟩) | (go_at_call 44; refine (HWD.out _).mono ?_; rintro e w5 ⟨rfl, rfl⟩))
        go_wp2_with fail
        go_ret
        exact ⟨by rw [HBT.out]; rfl, ((Fr.refl _ _).alloc _).drew⟩
      · have hm0 : ((W : Int) % 64 == 0) = false := by simp; omega
        go_enter Try.func21, Try.ntmps21
        go_wp2_with fail
        go_region_held3 (fun w' => w'.cell? ⟨w.heap.size, 0, none⟩ = some (.int .i64 W) ∧ w'.cell? ⟨w.heap.size, 1, none⟩ = some (.int .i64 H) ∧ w'.cell? ⟨w.heap.size, 2, none⟩ = some (.slice ao n cap)) (first | exact HBX.out _ ((Fr.refl _ _).drew) | exact HBX.out _ ((Fr.refl _ _).drewN _)) (first | (go_at_call 16; refine (HZ.out _).mono ?_; rintro e w4 ⟨rfl, rfl⟩) | (go_at_call 44; refine (HWD.out _).mono ?_; rintro e w5 ⟨rfl, rfl⟩))
        go_wp2_with fail
        go_loopw [3] (fun i wr => ∃ k : Nat, k ≤ H ∧ i = .int .i64 k ∧ Fr (fun _ => False) (w.alloc (.cells #[.int .i64 W, .int .i64 H, .slice ao n cap] 25)) wr ∧ Hid (∀ j, j < k → rowOK W l j)) (fun i _ => H - (intOf i).toNat)
        case atStart => exact ⟨0, Nat.zero_le _, rfl, (Fr.refl _ _).drew, fun j hj => by omega⟩
        case round =>
          obtain ⟨k, hk, rfl, hfr, HR⟩ := hrel
          have HF : Hid (Fr (fun _ => False) (w.alloc (.cells #[.int .i64 W, .int .i64 H, .slice ao n cap] 25)) wr) := hfr
          obtain ⟨c0, c1, c2⟩ := HBX.out wr hfr
          clear hfr
          by_cases hlt : k < H
          · have hidx : (k + 1) * stride W ≤ H * stride W := Nat.mul_le_mul_right _ hlt
            have hidp : stride W ≤ (k + 1) * stride W := by rw [Nat.add_mul, Nat.one_mul]; omega
            have hln := HLEN.out
            have hnn := HNN.out
            have hne0 : l ≠ [] := by
              intro e
              have := HN.out
              rw [e] at this
              simp at this
              omega
            obtain ⟨b0, off, rfl, hcell⟩ := HCC.out hne0
            have hcw := hcell ((k + 1) * stride W - 1) (by have := HN.out; omega)
            have hwl := HLT.out ((k + 1) * stride W - 1)
            have HRK : Hid (rowOK W l k ↔ (l[(k + 1) * stride W - 1]?.getD 0) * 2 ^ (W % 64) % 18446744073709551616 = 0) := by
              show _ ↔ _
              unfold rowOK
              rw [shl_zero _ _ (Nat.mod_lt _ (by omega)) (by omega), show 64 * stride W - W = 64 - W % 64 from by unfold stride; omega]
            have hq1 : IntKind.u64.wrap (((l[(k + 1) * stride W - 1]?.getD 0 : Nat) : Int) * 2 ^ (W % 64)) = (((l[(k + 1) * stride W - 1]?.getD 0) * 2 ^ (W % 64) % 18446744073709551616 : Nat) : Int) := by
              rw [wrapu64]; exact cast_mul_pow _ _ 18446744073709551616
            have hm2 : ((k : Int) + 1) * (stride W : Int) = (((k + 1) * stride W : Nat) : Int) := by push_cast; rfl
            obtain ⟨a, ha⟩ : ∃ a, (k + 1) * stride W = a + 1 := ⟨(k + 1) * stride W - 1, by omega⟩
            rw [ha] at hm2 hcw hwl HRK hq1 hidx hidp
            simp only [Nat.add_sub_cancel] at hcw hwl HRK hq1
            clear ha
            have HD : Hid (∀ w', Fr (fun _ => False) wr w' → w'.cell? ⟨w.heap.size, 0, none⟩ = some (.int .i64 W) ∧ w'.cell? ⟨w.heap.size, 2, none⟩ = some (.slice (some ⟨b0, off, none⟩) n cap) ∧ w'.cell? ⟨b0, off + a, none⟩ = some (.int .u64 (l[a]?.getD 0 : Nat))) := fun w' hf => by
              have hf2 : Fr (fun _ => False) (w.alloc (.cells #[.int .i64 W, .int .i64 H, .slice (some ⟨b0, off, none⟩) n cap] 25)) w' := HF.out.trans hf (fun _ _ hh => hh)
              obtain ⟨z0, z1, z2⟩ := HBX.out w' hf2
              refine ⟨z0, z2, ?_⟩
              rw [(((Fr.refl (fun _ => False) w).alloc _).trans hf2 (fun _ _ hh => hh)).cellEq (seen_lt hcw) (fun hh => hh)]
              exact hcw
            generalize l[a]?.getD 0 = X at *
            generalize X * 2 ^ (W % 64) % 18446744073709551616 = R at *
            have g1 : IntKind.i64.wrap ((k : Int) + 1) = (k : Int) + 1 := by rw [IntKind.wrap_i64]; omega
            have hm3 : ((k : Int) + 1) * (stride W : Int) = (a : Int) + 1 := by rw [hm2]; omega
            clear hm2
            have g2 : IntKind.i64.wrap ((a : Int) + 1) = (a : Int) + 1 := by rw [IntKind.wrap_i64]; omega
            have g3 : IntKind.i64.wrap ((a : Int) + 1 - 1) = (a : Int) := by rw [IntKind.wrap_i64]; omega
            have g7 : IntKind.i64.wrap (a : Int) = (a : Int) := by rw [IntKind.wrap_i64]; omega
            have g4 : (0 : Int) ≤ (a : Int) := by omega
            have g5 : (a : Int) < (n : Int) := by omega
            have hq2 : IntKind.u64.wrap ((X : Int) * 2 ^ min (IntKind.u64.wrap ((W : Int).tmod 64)).toNat 64) = (R : Int) := by
              rw [← hq1]
              have e0 : min (IntKind.u64.wrap ((W : Int).tmod 64)).toNat 64 = W % 64 := by
                rw [wrapu64, Int.tmod_eq_emod_of_nonneg (by omega)]; omega
              rw [e0]
            clear hcell hcw hwl hidx hidp hln hnn hne0 hq1
            by_cases hR : R = 0
            · have hb : ((R : Int) != 0) = false := by simp [hR]
              have HR2 : Hid (∀ j, j < k + 1 → rowOK W l j) := fun j hj => by
                by_cases hjk : j < k
                · exact HR.out j hjk
                · have : j = k := by omega
                  rw [this]; exact HRK.out.2 hR
              clear hR HRK HR
              go_wp2_with fail
              go_region_held3 (fun w' => w'.cell? ⟨w.heap.size, 0, none⟩ = some (.int .i64 W) ∧ w'.cell? ⟨w.heap.size, 2, none⟩ = some (.slice (some ⟨b0, off, none⟩) n cap) ∧ w'.cell? ⟨b0, off + a, none⟩ = some (.int .u64 (X : Nat))) (first | exact HD.out _ ((Fr.refl _ _).drew) | exact HD.out _ ((Fr.refl _ _).drewN _)) (first | (go_at_call 44; refine (HWD.out _).mono ?_; rintro e w4 ⟨rfl, rfl⟩))
              go_wp2_with fail
              go_roundw
              case rel => exact ⟨k + 1, by omega, congrArg (Value.int .i64) (by omega), HF.out.drew, HR2⟩
              case measure => simp [intOf]; omega
            · have hb : ((R : Int) != 0) = true := by rw [bne_iff_ne]; omega
              have HBF : Hid (decide (∀ j, j < H → rowOK W l j) = false) := decide_eq_false fun hh => hR (HRK.out.1 (hh k hlt))
              clear hR HRK HR
              go_wp2_with fail
              go_region_held3 (fun w' => w'.cell? ⟨w.heap.size, 0, none⟩ = some (.int .i64 W) ∧ w'.cell? ⟨w.heap.size, 2, none⟩ = some (.slice (some ⟨b0, off, none⟩) n cap) ∧ w'.cell? ⟨b0, off + a, none⟩ = some (.int .u64 (X : Nat))) (first | exact HD.out _ ((Fr.refl _ _).drew) | exact HD.out _ ((Fr.refl _ _).drewN _)) (first | (go_at_call 44; refine (HWD.out _).mono ?_; rintro e w4 ⟨rfl, rfl⟩))
              go_wp2_with fail
              go_ret
              exact ⟨by rw [HBF.out]; rfl, ((Fr.refl (fun _ => False) w).alloc _).trans HF.out.drew (fun _ _ hh => hh)⟩
          · have hkn : k = H := by omega
            subst hkn
            have HBT : Hid (decide (∀ j, j < k → rowOK W l j) = true) := decide_eq_true HR.out
            go_wp2_with fail
            go_ret
            exact ⟨by rw [HBT.out]; rfl, ((Fr.refl (fun _ => False) w).alloc _).trans HF.out (fun _ _ hh => hh)⟩
    · have hne : ((n : Int) != (N : Int)) = true := by rw [bne_iff_ne]; omega
      rw [decide_eq_false hlen, Bool.false_and]
      go_enter Try.func21, Try.ntmps21
      go_wp2_with fail
      go_region_held3 (fun w' => w'.cell? ⟨w.heap.size, 0, none⟩ = some (.int .i64 W) ∧ w'.cell? ⟨w.heap.size, 1, none⟩ = some (.int .i64 H) ∧ w'.cell? ⟨w.heap.size, 2, none⟩ = some (.slice ao n cap)) (first | exact HBX.out _ ((Fr.refl _ _).drew) | exact HBX.out _ ((Fr.refl _ _).drewN _)) (first | (go_at_call 16; refine (HZ.out _).mono ?_; rintro e w4 ⟨rfl, rfl⟩) | (go_at_call 44; refine (HWD.out _).mono ?_; rintro e w5 ⟨rfl, rfl⟩))
      go_wp2_with fail
      go_ret
      exact ⟨rfl, ((Fr.refl _ _).alloc _).drew⟩
  · have hs' : sizeOK x y = false := by simpa using hs
    have hvb : validB x y l = false := by unfold validB; rw [hs']; rfl
    have HZ : Hid (∀ w' : World, Calls Try.prog 16 #[.int .i64 x, .int .i64 y] w' fun e w'' => e = .returned (.bool false) ∧ w'' = w') := fun w' => by
      have := zSize_any x y w' hx hy
      rw [hs'] at this
      exact this
    rw [hvb]
    generalize l.length = n at *
    go_enter Try.func21, Try.ntmps21
    go_wp2_with fail
    go_quiet (first | (go_at_call 16; refine Calls.quiet_of_same (HZ.out _)))
    go_wp2_with fail
    go_ret
    exact ⟨rfl, ((Fr.refl _ _).alloc _).drewN _⟩

end Go.Proofs.Ytgpciopoionmeaa
