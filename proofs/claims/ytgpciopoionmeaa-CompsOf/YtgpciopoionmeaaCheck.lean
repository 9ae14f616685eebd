/- 'Check': may a bitmap be? -/
import Derived.Test.YtgpciopoionmeaaEq
namespace Go.Proofs.Ytgpciopoionmeaa
open Go.RowKit

/-- The bits of a row's last word that are no pixels are 0. -/
def rowOK (W : Nat) (l : List Nat) (j : Nat) : Prop := (l[(j + 1) * stride W - 1]?.getD 0) % 2 ^ (64 * stride W - W) = 0
instance (W : Nat) (l : List Nat) (j : Nat) : Decidable (rowOK W l j) := by unfold rowOK; infer_instance
def validB (x y : Int) (l : List Nat) : Bool := sizeOK x y && decide (l.length = y.toNat * stride x.toNat) && decide (∀ j, j < y.toNat → rowOK x.toNat l j)

theorem validB_nat (W H : Nat) (l : List Nat) (h : sizeOK W H = true) : validB W H l = (decide (l.length = H * stride W) && decide (∀ j, j < H → rowOK W l j)) := by
  unfold validB; rw [h]; simp

def pixOf (W : Nat) (l : List Nat) : Nat → Nat → Bool := fun x y => (l[y * stride W + x / 64]?.getD 0).testBit (63 - x % 64)

theorem valid_render (W H : Nat) (l : List Nat) (hW : 1 ≤ W) (hl : l.length = H * stride W) (hr : ∀ j, j < H → rowOK W l j) (hlt : ∀ j : Nat, l[j]?.getD 0 < 18446744073709551616) : l = render W H (pixOf W l) := by
  apply List.ext_getElem?
  intro i
  by_cases hi : i < H * stride W
  · rw [render_get' _ hi, List.getElem?_eq_getElem (by omega)]
    have hS := stride_pos hW
    have hdm := Nat.div_add_mod i (stride W)
    have hmod := Nat.mod_lt i hS
    have hdv := div_lt_of hi
    have hx := hlt i
    rw [List.getElem?_eq_getElem (by omega)] at hx
    refine congrArg some (word_eq hx ?_)
    intro k hk
    have hidx : i / stride W * stride W + (64 * (i % stride W) + k) / 64 = i := by
      rw [show (64 * (i % stride W) + k) / 64 = i % stride W from by omega, Nat.mul_comm]; exact hdm
    by_cases hin : 64 * (i % stride W) + k < W
    · rw [decide_eq_true hin, Bool.true_and]
      unfold pixOf
      rw [hidx, List.getElem?_eq_getElem (by omega), show (64 * (i % stride W) + k) % 64 = k from by omega]
      rfl
    · rw [decide_eq_false hin, Bool.false_and]
      have hlast : i % stride W = stride W - 1 := by unfold stride at hmod hin ⊢; omega
      have hrow := hr (i / stride W) hdv
      unfold rowOK at hrow
      have e1 : (i / stride W + 1) * stride W - 1 = i := by
        rw [Nat.add_mul, Nat.one_mul, Nat.mul_comm]; omega
      rw [e1, List.getElem?_eq_getElem (by omega)] at hrow
      have hrow2 : l[i] % 2 ^ (64 * stride W - W) = 0 := hrow
      have := Nat.testBit_mod_two_pow l[i] (64 * stride W - W) (63 - k)
      rw [hrow2, Nat.zero_testBit, decide_eq_true (show 63 - k < 64 * stride W - W by rw [hlast] at hin; unfold stride at hin ⊢; omega), Bool.true_and] at this
      exact this.symm
  · rw [List.getElem?_eq_none (by omega), List.getElem?_eq_none (by rw [length_render]; omega)]

theorem seen_lt {w : World} {b o : Nat} {v : Value} (h : w.cell? ⟨b, o, none⟩ = some v) : b < w.heap.size := by
  unfold World.cell? at h
  rcases Nat.lt_or_ge b w.heap.size with h1 | h1
  · exact h1
  · rw [Array.getElem?_eq_none h1] at h; simp at h

theorem pad_and (x p : Nat) (hx : x < 18446744073709551616) (hp : p < 64) : bits .and .u64 (x : Int) ((2 ^ p - 1 : Nat) : Int) = ((x % 2 ^ p : Nat) : Int) := by
  have h1 : (2 : Nat) ^ p < 2 ^ 64 := Nat.pow_lt_pow_right (by omega) hp
  rw [← Nat.and_two_pow_sub_one_eq_mod]
  exact u64_and_nat x _ hx (by omega)

set_option maxRecDepth 100000 in
set_option maxHeartbeats 2000000 in
theorem check_any (x y : Int) (v : Value) (l : List Nat) (w : World) (hx : -9223372036854775808 ≤ x ∧ x ≤ 9223372036854775807) (hy : -9223372036854775808 ≤ y ∧ y ≤ 9223372036854775807) (hv : Seen w v l) (hlt : ∀ j : Nat, l[j]?.getD 0 < 18446744073709551616) :
    Calls Try.prog 45 #[.agg #[.int .i64 x, .int .i64 y, v]] w fun e w' => e = .returned (.bool (validB x y l)) ∧ Fr (fun _ => False) w w' := by
  have HLT : Hid (∀ j : Nat, l[j]?.getD 0 < 18446744073709551616) := hlt
  clear hlt
  obtain ⟨ao, cap, rfl, hll, hcc⟩ := hv
  have HCC : Hid (l ≠ [] → ∃ b off, ao = some ⟨b, off, none⟩ ∧ ∀ j, j < l.length → w.cell? ⟨b, off + j, none⟩ = some (.int .u64 (l[j]?.getD 0 : Nat))) := hcc
  clear hcc
  by_cases hs : sizeOK x y = true
  · have hss := hs
    unfold sizeOK at hss
    obtain ⟨h1, h2, h3⟩ := of_decide_eq_true hss
    obtain ⟨W, rfl⟩ : ∃ W : Nat, x = W := ⟨x.toNat, by omega⟩
    obtain ⟨H, rfl⟩ : ∃ H : Nat, y = H := ⟨y.toNat, by omega⟩
    have h3' : W * H ≤ 1048576 := by have := h3; rw [← Int.natCast_mul] at this; omega
    obtain ⟨f1, f2, f3⟩ := size_facts (show 1 ≤ W by omega) (show 1 ≤ H by omega) h3'
    rw [validB_nat W H l hs]
    have hS := stride_pos (show 0 < W by omega)
    have hSb : stride W ≤ 1048576 := by unfold stride; omega
    clear hss h3 h3'
    have hm1 : (H : Int) * (stride W : Int) = ((H * stride W : Nat) : Int) := by push_cast; rfl
    obtain ⟨n, hn⟩ : ∃ n, n = l.length := ⟨_, rfl⟩
    rw [← hn] at hll ⊢
    have HN : Hid (n = l.length) := hn
    clear hn
    by_cases hlen : n = H * stride W
    · have hne : ((n : Int) != ((H * stride W : Nat) : Int)) = false := by simp [hlen]
      rw [decide_eq_true hlen, Bool.true_and]
      have HLEN : Hid (n = H * stride W) := hlen
      clear hlen
      obtain ⟨N, hNN⟩ : ∃ N, N = H * stride W := ⟨_, rfl⟩
      rw [← hNN] at hne hm1 f3
      have HNN : Hid (N = H * stride W) := hNN
      clear hNN
      go_enter Try.func45, Try.ntmps45
      go_wp2_with fail
      refine (isSize_any W H _ hx hy).mono ?_
      rintro e w1 ⟨rfl, rfl⟩
      rw [hs]
      go_wp2_with fail
      refine (strideOf_any W _ f1).mono ?_
      rintro e w1 ⟨rfl, rfl⟩
      go_wp2_with fail
      go_loopw [24] (fun i wr => ∃ k : Nat, k ≤ H ∧ i = .int .i64 k ∧ Fr (fun _ => False) (w.alloc (.cells #[.int .i64 W, .int .i64 H, .slice ao n cap] 25)) wr ∧ Hid (∀ j, j < k → rowOK W l j)) (fun i _ => H - (intOf i).toNat)
      case atStart => exact ⟨0, Nat.zero_le _, rfl, Fr.refl _ _, fun j hj => by omega⟩
      case round =>
        obtain ⟨k, hk, rfl, hfr, HR⟩ := hrel
        have HF : Hid (Fr (fun _ => False) (w.alloc (.cells #[.int .i64 W, .int .i64 H, .slice ao n cap] 25)) wr) := hfr
        clear hfr
        by_cases hlt : k < H
        · have hidx : (k + 1) * stride W ≤ H * stride W := Nat.mul_le_mul_right _ hlt
          have hidp : stride W ≤ (k + 1) * stride W := by rw [Nat.add_mul, Nat.one_mul]; omega
          have hln := HLEN.out
          have hnn := HNN.out
          have hne0 : l ≠ [] := by
            intro e
            have := HN.out
            rw [e] at this
            simp at this
            omega
          obtain ⟨b0, off, rfl, hcell⟩ := HCC.out hne0
          have hcw := hcell ((k + 1) * stride W - 1) (by have := HN.out; omega)
          have hwl := HLT.out ((k + 1) * stride W - 1)
          have HRK : Hid (rowOK W l k ↔ (l[(k + 1) * stride W - 1]?.getD 0) % 2 ^ (64 * stride W - W) = 0) := Iff.rfl
          have hp : 64 * stride W - W < 64 := by unfold stride; omega
          have hq1 := pad_and (l[(k + 1) * stride W - 1]?.getD 0) (64 * stride W - W) hwl hp
          have hm2 : ((k : Int) + 1) * (stride W : Int) = (((k + 1) * stride W : Nat) : Int) := by push_cast; rfl
          obtain ⟨a, ha⟩ : ∃ a, (k + 1) * stride W = a + 1 := ⟨(k + 1) * stride W - 1, by omega⟩
          rw [ha] at hm2 hcw hwl HRK hq1 hidx hidp
          simp only [Nat.add_sub_cancel] at hcw hwl HRK hq1
          clear ha
          have HD : Hid (∀ w', Fr (fun _ => False) wr w' → w'.cell? ⟨w.heap.size, 0, none⟩ = some (.int .i64 W) ∧ w'.cell? ⟨w.heap.size, 2, none⟩ = some (.slice (some ⟨b0, off, none⟩) n cap) ∧ w'.cell? ⟨b0, off + a, none⟩ = some (.int .u64 (l[a]?.getD 0 : Nat))) := fun w' hf => by
            have hf2 : Fr (fun _ => False) (w.alloc (.cells #[.int .i64 W, .int .i64 H, .slice (some ⟨b0, off, none⟩) n cap] 25)) w' := HF.out.trans hf (fun _ _ hh => hh)
            have hB : w'.heap[w.heap.size]? = some (.cells #[.int .i64 W, .int .i64 H, .slice (some ⟨b0, off, none⟩) n cap] 25 (0, 0)) := by
              rw [hf2.block _ (by simp) (fun hh => hh)]; exact heap_alloc_new _ _
            obtain ⟨c0, c1, c2, _⟩ := cell_of_three hB
            refine ⟨c0, c2, ?_⟩
            rw [(((Fr.refl (fun _ => False) w).alloc _).trans hf2 (fun _ _ hh => hh)).cellEq (seen_lt hcw) (fun hh => hh)]
            exact hcw
          have HPD : Hid (∀ w', Calls Try.prog 66 #[.int .i64 W] w' fun e w'' => e = .returned (.int .u64 (2 ^ (64 * stride W - W) - 1 : Nat)) ∧ w'' = w') := fun w' => padOf_any W w' f1 (by omega)
          generalize l[a]?.getD 0 = X at *
          generalize 64 * stride W - W = p at *
          generalize 2 ^ p - 1 = m at *
          generalize X % 2 ^ p = R at *
          have g1 : IntKind.i64.wrap ((k : Int) + 1) = (k : Int) + 1 := by rw [IntKind.wrap_i64]; omega
          have hm3 : ((k : Int) + 1) * (stride W : Int) = (a : Int) + 1 := by rw [hm2]; omega
          clear hm2
          have g2 : IntKind.i64.wrap ((a : Int) + 1) = (a : Int) + 1 := by rw [IntKind.wrap_i64]; omega
          have g3 : IntKind.i64.wrap ((a : Int) + 1 - 1) = (a : Int) := by rw [IntKind.wrap_i64]; omega
          have g7 : IntKind.i64.wrap (a : Int) = (a : Int) := by rw [IntKind.wrap_i64]; omega
          have g4 : (0 : Int) ≤ (a : Int) := by omega
          have g5 : (a : Int) < (n : Int) := by omega
          clear hcell hcw hwl hidx hidp hp hln hnn hne0
          by_cases hR : R = 0
          · have hb : ((R : Int) != 0) = false := by simp [hR]
            have HR2 : Hid (∀ j, j < k + 1 → rowOK W l j) := fun j hj => by
              by_cases hjk : j < k
              · exact HR.out j hjk
              · have : j = k := by omega
                rw [this]; exact HRK.out.2 hR
            clear hR HRK HR
            go_wp2_with fail
            go_region_held3 (fun w' => w'.cell? ⟨w.heap.size, 0, none⟩ = some (.int .i64 W) ∧ w'.cell? ⟨w.heap.size, 2, none⟩ = some (.slice (some ⟨b0, off, none⟩) n cap) ∧ w'.cell? ⟨b0, off + a, none⟩ = some (.int .u64 (X : Nat))) (first | exact HD.out _ ((Fr.refl _ _).drew) | exact HD.out _ ((Fr.refl _ _).drewN _)) (first | (go_at_call 66; refine (HPD.out _).mono ?_; rintro e w4 ⟨rfl, rfl⟩))
            go_wp2_with fail
            go_roundw
            case rel => exact ⟨k + 1, by omega, congrArg (Value.int .i64) (by omega), HF.out.drew, HR2⟩
            case measure => simp [intOf]; omega
          · have hb : ((R : Int) != 0) = true := by rw [bne_iff_ne]; omega
            have HBF : Hid (decide (∀ j, j < H → rowOK W l j) = false) := decide_eq_false fun hh => hR (HRK.out.1 (hh k hlt))
            clear hR HRK HR
            go_wp2_with fail
            go_region_held3 (fun w' => w'.cell? ⟨w.heap.size, 0, none⟩ = some (.int .i64 W) ∧ w'.cell? ⟨w.heap.size, 2, none⟩ = some (.slice (some ⟨b0, off, none⟩) n cap) ∧ w'.cell? ⟨b0, off + a, none⟩ = some (.int .u64 (X : Nat))) (first | exact HD.out _ ((Fr.refl _ _).drew) | exact HD.out _ ((Fr.refl _ _).drewN _)) (first | (go_at_call 66; refine (HPD.out _).mono ?_; rintro e w4 ⟨rfl, rfl⟩))
            go_wp2_with fail
            go_ret
            exact ⟨by rw [HBF.out]; rfl, ((Fr.refl (fun _ => False) w).alloc _).trans HF.out.drew (fun _ _ hh => hh)⟩
        · have hkn : k = H := by omega
          subst hkn
          have HBT : Hid (decide (∀ j, j < k → rowOK W l j) = true) := decide_eq_true HR.out
          go_wp2_with fail
          go_ret
          exact ⟨by rw [HBT.out]; rfl, ((Fr.refl (fun _ => False) w).alloc _).trans HF.out (fun _ _ hh => hh)⟩
    · have hne : ((n : Int) != ((H * stride W : Nat) : Int)) = true := by rw [bne_iff_ne]; omega
      rw [decide_eq_false hlen, Bool.false_and]
      generalize H * stride W = N at *
      go_enter Try.func45, Try.ntmps45
      go_wp2_with fail
      refine (isSize_any W H _ hx hy).mono ?_
      rintro e w1 ⟨rfl, rfl⟩
      rw [hs]
      go_wp2_with fail
      refine (strideOf_any W _ f1).mono ?_
      rintro e w1 ⟨rfl, rfl⟩
      go_wp2_with fail
      go_ret
      exact ⟨rfl, (Fr.refl _ _).alloc _⟩
  · have hs' : sizeOK x y = false := by simpa using hs
    have hvb : validB x y l = false := by unfold validB; rw [hs']; rfl
    rw [hvb]
    go_enter Try.func45, Try.ntmps45
    go_wp2_with fail
    refine (isSize_any x y _ hx hy).mono ?_
    rintro e w1 ⟨rfl, rfl⟩
    rw [hs']
    go_wp2_with fail
    go_ret
    exact ⟨rfl, (Fr.refl _ _).alloc _⟩

end Go.Proofs.Ytgpciopoionmeaa
