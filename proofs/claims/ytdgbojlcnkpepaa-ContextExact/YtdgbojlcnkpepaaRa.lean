/- The document's own contexts: At. -/
import Derived.Test.YtdgbojlcnkpepaaR6
namespace Go.Proofs.Ytdgbojlcnkpepaa
open Go.RowKit

theorem pixI_get (W H : Nat) (P : Nat → Nat → Bool) (x y : Int) : (getPix W H P x y).toNat = pixI W H P x y := by
  unfold getPix pixI
  by_cases h : 0 ≤ x ∧ x < W ∧ 0 ≤ y ∧ y < H
  · rw [decide_eq_true h, if_pos h, Bool.true_and]
  · rw [decide_eq_false h, if_neg h, Bool.false_and]; rfl

set_option maxRecDepth 100000 in
set_option maxHeartbeats 4000000 in
theorem rat_any (W H : Nat) (v : Value) (P : Nat → Nat → Bool) (t g cg : Nat) (x y : Int) (w : World) (hb : Bm w v W H P) (ht : t < 4) (hp : PlAt w g t) (hx : -9223372036854775808 ≤ x ∧ x ≤ 9223372036854775807) (hy : -9223372036854775808 ≤ y ∧ y ≤ 9223372036854775807) :
    Calls Try.prog 18 #[.agg #[.int .i64 W, .int .i64 H, v], .slice (some ⟨g, 0, none⟩) (2 * bitsK t 3) cg, .int .i64 x, .int .i64 y] w fun e w' => e = .returned (.int .i64 (ctx (pixI W H P) t x y : Nat)) ∧ Fr (fun _ => False) w w' := by
  have HT : Hid (t < 4) := ht
  obtain ⟨f1, f2, f3⟩ := size_facts hb.h1 hb.h2 hb.h3
  have HB : Hid (∀ w', Fr (fun _ => False) w w' → Bm w' v W H P) := fun w' f => hb.kept f
  have HG : Hid (∀ (a b : Int) w', Fr (fun _ => False) w w' → Calls Try.prog 25 #[.agg #[.int .i64 W, .int .i64 H, v], .int .i64 a, .int .i64 b] w' fun e w'' => e = .returned (.int .i64 (pixI W H P a b : Nat)) ∧ Fr (fun _ => False) w' w'') := fun a b w' hf => by
    have h := zget_any W H v P a b w' (hb.seen.kept hf) hb.h1 hb.h2 hb.h3
    rwa [pixI_get] at h
  have HPl : Hid (∀ w', Fr (fun _ => False) w w' → ∀ j, j < bitsK t 3 → w'.cell? ⟨g, 2 * j, none⟩ = some (.int .i64 (pX t j)) ∧ w'.cell? ⟨g, 2 * j + 1, none⟩ = some (.int .i64 (pY t j))) := fun w' hf j hj => by
    have hl := plc_length t ht
    exact ⟨(hp.kept hf (fun h => h)) (2 * j) (by omega), (hp.kept hf (fun h => h)) (2 * j + 1) (by omega)⟩
  have hbl := bits_le t ht
  have HC : Hid (gth (pixI W H P) t x y (bitsK t 3) = ctx (pixI W H P) t x y) := gth_ctx _ t x y ht
  obtain ⟨ao, cap, rfl, _, _⟩ := hb.seen
  have HBX : Hid (∀ w', Fr (fun _ => False) (w.alloc (.cells #[.int .i64 W, .int .i64 H, .slice ao (render W H P).length cap] 24)) w' → w'.cell? ⟨w.heap.size, 0, none⟩ = some (.int .i64 W) ∧ w'.cell? ⟨w.heap.size, 1, none⟩ = some (.int .i64 H) ∧ w'.cell? ⟨w.heap.size, 2, none⟩ = some (.slice ao (render W H P).length cap)) := fun w' hf => by
    obtain ⟨c0, c1, c2, _⟩ := cell_of_three (blkOld hf (heap_alloc_new w (.cells #[.int .i64 W, .int .i64 H, .slice ao (render W H P).length cap] 24)))
    exact ⟨c0, c1, c2⟩
  generalize (render W H P).length = n at *
  have HA : Hid (Fr (fun _ => False) w (w.alloc (.cells #[.int .i64 W, .int .i64 H, .slice ao n cap] 24))) := (Fr.refl _ _).alloc _
  have hwW : IntKind.i64.wrap ((W : Int) + 10) = (W : Int) + 10 := by rw [IntKind.wrap_i64]; omega
  have hwH : IntKind.i64.wrap ((H : Int) + 10) = (H : Int) + 10 := by rw [IntKind.wrap_i64]; omega
  have HW : Hid (W ≤ 1048576 ∧ H ≤ 1048576) := ⟨f1, f2⟩
  clear hb ht hp f3
  by_cases hfar : x < -10 ∨ y < -10 ∨ (W : Int) + 10 < x ∨ (H : Int) + 10 < y
  · have HE : Hid (ctx (pixI W H P) t x y = 0) := ctx_far W H P t x y HT.out (by omega)
    rw [HE.out]
    rcases (show x < -10 ∨ (¬ x < -10 ∧ (y < -10 ∨ (¬ y < -10 ∧ ((W : Int) + 10 < x ∨ (¬ (W : Int) + 10 < x ∧ (H : Int) + 10 < y))))) by omega) with h1 | ⟨h1, h2 | ⟨h2, h3 | ⟨h3, h4⟩⟩⟩
    · have hd1 : decide (x < -10) = true := decide_eq_true h1
      clear hfar h1
      go_enter Try.func18, Try.ntmps18
      go_wp2_with fail
      go_ret
      exact ⟨rfl, HA.out⟩
    · have hd1 : decide (x < -10) = false := decide_eq_false h1
      have hd2 : decide (y < -10) = true := decide_eq_true h2
      clear hfar h1 h2
      go_enter Try.func18, Try.ntmps18
      go_wp2_with fail
      go_ret
      exact ⟨rfl, HA.out⟩
    · have hd1 : decide (x < -10) = false := decide_eq_false h1
      have hd2 : decide (y < -10) = false := decide_eq_false h2
      have hd3 : decide ((W : Int) + 10 < x) = true := decide_eq_true h3
      clear hfar h1 h2 h3
      go_enter Try.func18, Try.ntmps18
      go_wp2_with fail
      go_ret
      exact ⟨rfl, HA.out⟩
    · have hd1 : decide (x < -10) = false := decide_eq_false h1
      have hd2 : decide (y < -10) = false := decide_eq_false h2
      have hd3 : decide ((W : Int) + 10 < x) = false := decide_eq_false h3
      have hd4 : decide ((H : Int) + 10 < y) = true := decide_eq_true h4
      clear hfar h1 h2 h3 h4
      go_enter Try.func18, Try.ntmps18
      go_wp2_with fail
      go_ret
      exact ⟨rfl, HA.out⟩
  · have hd1 : decide (x < -10) = false := decide_eq_false (by omega)
    have hd2 : decide (y < -10) = false := decide_eq_false (by omega)
    have hd3 : decide ((W : Int) + 10 < x) = false := decide_eq_false (by omega)
    have hd4 : decide ((H : Int) + 10 < y) = false := decide_eq_false (by omega)
    have HXY : Hid (-10 ≤ x ∧ x ≤ W + 10 ∧ -10 ≤ y ∧ y ≤ H + 10) := ⟨by omega, by omega, by omega, by omega⟩
    rw [← HC.out]
    have HGl : Hid (∀ j, j ≤ bitsK t 3 → gth (pixI W H P) t x y j < 65537) := fun j hj => by
      have h1 := gth_lt (pixI W H P) (pixI_le W H P) t x y j
      have h2 : 2 ^ j ≤ 2 ^ 16 := Nat.pow_le_pow_right (by omega) (by omega)
      omega
    generalize bitsK t 3 = K at *
    clear hfar hx hy
    go_enter Try.func18, Try.ntmps18
    go_wp2_with fail
    generalize w.alloc (.cells #[.int .i64 W, .int .i64 H, .slice ao n cap] 24) = w0 at *
    go_loopw [9, 10] (fun s i wr => ∃ j : Nat, j ≤ K ∧ s = .int .i64 (gth (pixI W H P) t x y j : Nat) ∧ i = .int .i64 (2 * (j : Int)) ∧ Fr (fun _ => False) w0 wr) (fun _ i _ => (2 * (K : Int) + 2 - intOf i).toNat)
    case atStart => exact ⟨0, Nat.zero_le _, rfl, rfl, Fr.refl _ _⟩
    case round =>
      obtain ⟨j, hj, rfl, rfl, hfr⟩ := hrel
      have HFr : Hid (Fr (fun _ => False) w0 wr) := hfr
      clear hfr
      by_cases hjK : j < K
      · have hps := plc_small t HT.out j
        have hst : gth (pixI W H P) t x y (j + 1) = 2 * gth (pixI W H P) t x y j + pixI W H P (x + pX t j) (y + pY t j) := rfl
        have hgl := HGl.out (j + 1) hjK
        have hdl : decide (2 * (j : Int) < 2 * (K : Int)) = true := decide_eq_true (by omega)
        have hdl2 : decide (2 * j < 2 * K) = true := decide_eq_true (by omega)
        have hdl3 : decide (j < K) = true := decide_eq_true (by omega)
        have HS : Hid (∀ w', Fr (fun _ => False) wr w' → (w'.cell? ⟨w.heap.size, 0, none⟩ = some (.int .i64 W) ∧ w'.cell? ⟨w.heap.size, 1, none⟩ = some (.int .i64 H) ∧ w'.cell? ⟨w.heap.size, 2, none⟩ = some (.slice ao n cap)) ∧ w'.cell? ⟨g, 2 * j, none⟩ = some (.int .i64 (pX t j)) ∧ w'.cell? ⟨g, 2 * j + 1, none⟩ = some (.int .i64 (pY t j))) := fun w' hf => by
          have h1 := HFr.out.trans hf (fun _ _ h => h)
          exact ⟨HBX.out _ h1, HPl.out _ (HA.out.trans h1 (fun _ _ h => h)) j hjK⟩
        have HGt : Hid (∀ w', Fr (fun _ => False) wr w' → Calls Try.prog 25 #[.agg #[.int .i64 W, .int .i64 H, .slice ao n cap], .int .i64 (x + pX t j), .int .i64 (y + pY t j)] w' fun e w'' => e = .returned (.int .i64 (pixI W H P (x + pX t j) (y + pY t j) : Nat)) ∧ Fr (fun _ => False) w' w'') := fun w' hf => HG.out _ _ _ (HA.out.trans (HFr.out.trans hf (fun _ _ h => h)) (fun _ _ h => h))
        have HST : Hid (gth (pixI W H P) t x y (j + 1) = 2 * gth (pixI W H P) t x y j + pixI W H P (x + pX t j) (y + pY t j)) := hst
        have hw1 : IntKind.i64.wrap (x + pX t j) = x + pX t j := by rw [IntKind.wrap_i64]; have := HXY.out; have := HW.out; omega
        have hw2 : IntKind.i64.wrap (y + pY t j) = y + pY t j := by rw [IntKind.wrap_i64]; have := HXY.out; have := HW.out; omega
        rw [hst] at hgl
        generalize gth (pixI W H P) t x y j = G at *
        generalize pixI W H P (x + pX t j) (y + pY t j) = p at *
        generalize pX t j = px at *
        generalize pY t j = py at *
        have hw3 : IntKind.i64.wrap (2 * (G : Int)) = 2 * (G : Int) := by rw [IntKind.wrap_i64]; omega
        have hw4 : IntKind.i64.wrap (2 * (G : Int) + (p : Int)) = 2 * (G : Int) + (p : Int) := by rw [IntKind.wrap_i64]; omega
        have hw5 : IntKind.i64.wrap (2 * (j : Int) + 1) = 2 * (j : Int) + 1 := by rw [IntKind.wrap_i64]; omega
        have hw6 : IntKind.i64.wrap (2 * (j : Int) + 2) = 2 * (j : Int) + 2 := by rw [IntKind.wrap_i64]; omega
        have hi1 : (2 * (j : Int)).toNat = 2 * j := by omega
        have hi2 : (2 * (j : Int) + 1).toNat = 2 * j + 1 := by omega
        have hj1 : (0 : Int) ≤ 2 * (j : Int) := by omega
        have hj2 : 2 * (j : Int) < 2 * (K : Int) := by omega
        have hj3 : (0 : Int) ≤ 2 * (j : Int) + 1 := by omega
        have hj4 : 2 * (j : Int) + 1 < 2 * (K : Int) := by omega
        clear hps hst hgl
        go_wp2_with fail
        obtain ⟨⟨c0, c1, c2⟩, d0, d1⟩ := HS.out wr (Fr.refl _ _)
        go_region_held3 (fun w' => w'.cell? ⟨w.heap.size, 0, none⟩ = some (.int .i64 W) ∧ w'.cell? ⟨w.heap.size, 1, none⟩ = some (.int .i64 H) ∧ w'.cell? ⟨w.heap.size, 2, none⟩ = some (.slice ao n cap) ∧ w'.cell? ⟨g, 2 * j, none⟩ = some (.int .i64 px) ∧ w'.cell? ⟨g, 2 * j + 1, none⟩ = some (.int .i64 py)) (exact (fun h => ⟨h.1.1, h.1.2.1, h.1.2.2, h.2⟩) (HS.out _ (by repeat (first | with_reducible exact Fr.refl _ _ | with_reducible refine Fr.drew ?_ | with_reducible refine Fr.trans ?_ hf7 (fun _ _ hh => hh))))) (first | (go_at_call 25; refine (HGt.out _ (by first | exact (Fr.refl _ _).drew | exact Fr.refl _ _)).mono ?_; rintro e w7 ⟨rfl, hf7⟩))
        all_goals go_wp2_with fail
        all_goals go_roundw
        all_goals first
          | exact ⟨j + 1, by omega, congrArg (Value.int .i64) (by rw [HST.out]; omega), congrArg (Value.int .i64) (by omega), HFr.out.trans ((Fr.refl (fun _ => False) wr).drew.trans hf7 (fun _ _ hh => hh)) (fun _ _ hh => hh)⟩
          | (simp [intOf]; omega)
      · obtain rfl : j = K := by omega
        have hdl : decide (2 * (j : Int) < 2 * (j : Int)) = false := decide_eq_false (by omega)
        go_wp2_with fail
        go_ret
        exact ⟨rfl, HA.out.trans HFr.out (fun _ _ h => h)⟩

end Go.Proofs.Ytdgbojlcnkpepaa
