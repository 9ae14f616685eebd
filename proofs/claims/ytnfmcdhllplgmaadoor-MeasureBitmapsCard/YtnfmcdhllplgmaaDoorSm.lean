/- Package bitmap: what the other texts lack (XRefPut, XSmallish). -/
import Derived.Test.YtnfmcdhllplgmaaDoorRefPut
namespace Go.Proofs.YtnfmcdhllplgmaaDoor
open Go.RowKit

set_option maxRecDepth 100000 in
set_option maxHeartbeats 1000000 in
theorem zcount_any (W H : Nat) (v : Value) (P : Nat → Nat → Bool) (w : World) (hv : Seen w v (render W H P)) (h1 : 1 ≤ W) (h2 : 1 ≤ H) (h3 : W * H ≤ 1048576) :
    Calls Tryd.prog 26 #[.agg #[.int .i64 W, .int .i64 H, v]] w fun e w' => e = .returned (.int .i64 (cnt W H P : Nat)) ∧ Fr (fun _ => False) w w' := by
  obtain ⟨f1, f2, f3⟩ := size_facts h1 h2 h3
  have HZ : Hid (∀ (i j : Int) (w' : World), Fr (fun _ => False) w w' → Calls Tryd.prog 25 #[.agg #[.int .i64 W, .int .i64 H, v], .int .i64 i, .int .i64 j] w' fun e w'' => e = .returned (.int .i64 ((getPix W H P i j).toNat : Nat)) ∧ Fr (fun _ => False) w' w'') := fun i j w' hf => zget_any W H v P i j w' (hv.kept hf) h1 h2 h3
  obtain ⟨ao, cap, rfl, hll, _⟩ := hv
  have HBX : Hid (∀ w', Fr (fun _ => False) (w.alloc (.cells #[.int .i64 W, .int .i64 H, .slice ao (render W H P).length cap] 25)) w' → w'.cell? ⟨w.heap.size, 0, none⟩ = some (.int .i64 W) ∧ w'.cell? ⟨w.heap.size, 1, none⟩ = some (.int .i64 H) ∧ w'.cell? ⟨w.heap.size, 2, none⟩ = some (.slice ao (render W H P).length cap)) := fun w' hf => by
    have hB : w'.heap[w.heap.size]? = some (.cells #[.int .i64 W, .int .i64 H, .slice ao (render W H P).length cap] 25 (0, 0)) := by
      rw [hf.block _ (by simp) (fun hh => hh)]; exact heap_alloc_new _ _
    obtain ⟨c0, c1, c2, _⟩ := cell_of_three hB
    exact ⟨c0, c1, c2⟩
  generalize (render W H P).length = n at *
  obtain ⟨f, hf⟩ : ∃ f : Nat → Nat → Nat, f = fun y x => (P x y).toNat := ⟨_, rfl⟩
  have HFE : Hid (∀ a b, a < W → b < H → f b a = (getPix W H P (a : Int) (b : Int)).toNat) := fun a b ha hb => by rw [hf, getPix_in ha hb]
  have HFC : Hid (cnt W H P = sumTo (fun y => sumTo (f y) W) H) := by show _ = _; rw [hf]; rfl
  have HFB : Hid (∀ k m, k ≤ H → m ≤ W → k < H ∨ m = 0 → sumTo (fun y => sumTo (f y) W) k + sumTo (f k) m ≤ 1048576) := fun k m hk hm hkm => by
    have e1 : ∀ b, ∀ a, a < W → f b a ≤ 1 := fun b a _ => by rw [hf]; show (P a b).toNat ≤ 1; cases P a b <;> simp
    have e2 : ∀ b, sumTo (f b) W ≤ W := fun b => by have := sumTo_le (n := W) (g := fun _ => 1) (e1 b); rw [sumTo_const] at this; omega
    have e3 := sumTo_le (n := k) (f := fun y => sumTo (f y) W) (g := fun _ => W) (fun b _ => e2 b)
    rw [sumTo_const] at e3
    have e4 := Nat.le_trans (sumTo_mono (f k) hm) (e2 k)
    rw [Nat.mul_comm] at h3
    rcases hkm with h | h
    · have e5 : (k + 1) * W ≤ H * W := Nat.mul_le_mul_right _ h
      rw [Nat.add_mul, Nat.one_mul] at e5
      omega
    · subst h
      have e5 : k * W ≤ H * W := Nat.mul_le_mul_right _ hk
      simp only [sumTo]
      omega
  rw [HFC.out]
  clear hf HFC h3
  go_enter Tryd.func26, Tryd.ntmps26
  go_wp2_with fail
  go_loopw [3, 4, 5] (fun s j _ wr => ∃ k : Nat, k ≤ H ∧ s = .int .i64 (sumTo (fun y => sumTo (f y) W) k : Nat) ∧ j = .int .i64 k ∧ Fr (fun _ => False) (w.alloc (.cells #[.int .i64 W, .int .i64 H, .slice ao n cap] 25)) wr) (fun _ j _ _ => H - (intOf j).toNat)
  case atStart => exact ⟨0, Nat.zero_le _, rfl, rfl, Fr.refl _ _⟩
  case round =>
    obtain ⟨k, hk, rfl, rfl, hfr⟩ := hrel
    have HFr : Hid (Fr (fun _ => False) (w.alloc (.cells #[.int .i64 W, .int .i64 H, .slice ao n cap] 25)) wr) := hfr
    obtain ⟨k0, k1, k2⟩ := HBX.out wr hfr
    clear hfr
    by_cases hlt : k < H
    · go_wp2_with fail
      go_loopw [3, 5] (fun s i wi => ∃ m : Nat, m ≤ W ∧ s = .int .i64 (sumTo (fun y => sumTo (f y) W) k + sumTo (f k) m : Nat) ∧ i = .int .i64 m ∧ Fr (fun _ => False) (w.alloc (.cells #[.int .i64 W, .int .i64 H, .slice ao n cap] 25)) wi) (fun _ i _ => W - (intOf i).toNat)
      case atStart => exact ⟨0, Nat.zero_le _, rfl, rfl, HFr.out⟩
      case round =>
        obtain ⟨m, hm, rfl, rfl, hfi⟩ := hrel
        have HFi : Hid (Fr (fun _ => False) (w.alloc (.cells #[.int .i64 W, .int .i64 H, .slice ao n cap] 25)) wr) := hfi
        clear k0 k1 k2
        obtain ⟨k0, k1, k2⟩ := HBX.out wr hfi
        clear hfi
        by_cases hmt : m < W
        · have hb1 := HFB.out k m hk hm (Or.inl hlt)
          have hb2 := HFB.out k (m + 1) hk hmt (Or.inl hlt)
          have HST : Hid (sumTo (f k) (m + 1) = sumTo (f k) m + (getPix W H P (m : Int) (k : Int)).toNat) := by show _ = _; rw [← HFE.out m k hmt hlt]; rfl
          rw [HST.out] at hb2
          go_wp2_with fail
          refine (HZ.out _ _ _ (((Fr.refl _ _).alloc _).trans HFi.out (fun _ _ hh => hh))).mono ?_
          rintro e w15 ⟨rfl, hf15⟩
          have HF15 : Hid (Fr (fun _ => False) (w.alloc (.cells #[.int .i64 W, .int .i64 H, .slice ao n cap] 25)) w15) := HFi.out.trans hf15 (fun _ _ hh => hh)
          clear hf15
          go_wp2_with fail
          go_roundw
          case rel => exact ⟨m + 1, by omega, congrArg (Value.int .i64) (by rw [HST.out]; omega), congrArg (Value.int .i64) (by omega), HF15.out⟩
          case measure => simp [intOf]; omega
        · have hmn : m = W := by omega
          subst hmn
          go_wp2_with fail
          go_roundw
          case rel => exact ⟨k + 1, by omega, rfl, congrArg (Value.int .i64) (by omega), HFi.out⟩
          case measure => simp [intOf]; omega
    · have hkn : k = H := by omega
      subst hkn
      go_wp2_with fail
      go_ret
      exact ⟨rfl, ((Fr.refl _ _).alloc _).trans HFr.out (fun _ _ hh => hh)⟩


end Go.Proofs.YtnfmcdhllplgmaaDoor
