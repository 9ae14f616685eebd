/- The document's own contexts, place by place: the numbers. -/
import Derived.Test.YtkggdnkmaldmlaaK1
import Derived.Test.YtkggdnkmaldmlaaK20
import Derived.Test.YtkggdnkmaldmlaaK4
import Derived.Test.YtkggdnkmaldmlaaK27
import Derived.BigRegion
import Derived.Test.YtkggdnkmaldmlaaK18
namespace Go.Proofs.Ytkggdnkmaldmlaa

/-- A template's places: to the right, down, in turns. -/
def plc : Nat → List Int
  | 0 => [-2, -2, -1, -2, 0, -2, 1, -2, 2, -2, -3, -1, -2, -1, -1, -1, 0, -1, 1, -1, 2, -1, 3, -1, -4, 0, -3, 0, -2, 0, -1, 0]
  | 1 => [-1, -2, 0, -2, 1, -2, 2, -2, -2, -1, -1, -1, 0, -1, 1, -1, 2, -1, 3, -1, -3, 0, -2, 0, -1, 0]
  | 2 => [-1, -2, 0, -2, 1, -2, -2, -1, -1, -1, 0, -1, 1, -1, 2, -1, -2, 0, -1, 0]
  | _ => [-3, -1, -2, -1, -1, -1, 0, -1, 1, -1, 2, -1, -4, 0, -3, 0, -2, 0, -1, 0]
/-- The place with number k, of a template's three rows. -/
def pX (t k : Nat) : Int := (plc t)[2 * k]?.getD 0
def pY (t k : Nat) : Int := (plc t)[2 * k + 1]?.getD 0
theorem plc_length (t : Nat) (ht : t < 4) : (plc t).length = 2 * bitsK t 3 := by
  have h : ∀ t, t < 4 → (plc t).length = 2 * bitsK t 3 := by decide
  exact h t ht
theorem plc_spans (t : Nat) (ht : t < 4) : ∀ i, i < 3 → ∀ j, j < cntS t i → pX t (bitsK t i + j) = fstS t i + j ∧ pY t (bitsK t i + j) = -2 + (i : Int) := by
  have h : ∀ t, t < 4 → ∀ i, i < 3 → ∀ j, j < cntS t i → pX t (bitsK t i + j) = fstS t i + j ∧ pY t (bitsK t i + j) = -2 + (i : Int) := by decide +kernel
  exact h t ht
theorem plc_small (t : Nat) (ht : t < 4) (k : Nat) : -4 ≤ pX t k ∧ pX t k ≤ 3 ∧ -2 ≤ pY t k ∧ pY t k ≤ 0 := by
  rcases Nat.lt_or_ge k 16 with h | h
  · have hh : ∀ t, t < 4 → ∀ k, k < 16 → -4 ≤ pX t k ∧ pX t k ≤ 3 ∧ -2 ≤ pY t k ∧ pY t k ≤ 0 := by decide +kernel
    exact hh t ht k h
  · have h1 := plc_length t ht
    have h2 := bits_le t ht
    unfold pX pY
    rw [List.getElem?_eq_none (by omega), List.getElem?_eq_none (by omega)]
    simp
/-- Gathered up to the place with number k. -/
def gth (q : Int → Int → Nat) (t : Nat) (x y : Int) : Nat → Nat
  | 0 => 0
  | k + 1 => 2 * gth q t x y k + q (x + pX t k) (y + pY t k)
theorem gth_lt (q : Int → Int → Nat) (hq : ∀ x y, q x y ≤ 1) (t : Nat) (x y : Int) : ∀ k, gth q t x y k < 2 ^ k
  | 0 => by simp [gth]
  | k + 1 => by
    have h1 := gth_lt q hq t x y k
    have h2 := hq (x + pX t k) (y + pY t k)
    rw [gth, Nat.pow_succ]; omega
theorem gth_gathN (q : Int → Int → Nat) (t : Nat) (x y : Int) (m : Nat) : ∀ n, gth q t x y (m + n) = gathN (fun j => q (x + pX t (m + j)) (y + pY t (m + j))) n (gth q t x y m)
  | 0 => rfl
  | n + 1 => by rw [← Nat.add_assoc, gth, gathN, gth_gathN q t x y m n]
theorem gth_ctxK (q : Int → Int → Nat) (t : Nat) (x y : Int) (ht : t < 4) : ∀ k, k ≤ 3 → gth q t x y (bitsK t k) = ctxK q t x y k
  | 0, _ => rfl
  | k + 1, hk => by
    rw [bitsK, gth_gathN, gth_ctxK q t x y ht k (by omega), ctxK]
    refine gathN_congr _ _ fun j hj => ?_
    obtain ⟨h1, h2⟩ := plc_spans t ht k (by omega) j hj
    rw [h1, h2]
    congr 1 <;> omega
theorem gth_ctx (q : Int → Int → Nat) (t : Nat) (x y : Int) (ht : t < 4) : gth q t x y (bitsK t 3) = ctx q t x y := gth_ctxK q t x y ht 3 (by omega)

end Go.Proofs.Ytkggdnkmaldmlaa

/- The document's own contexts: May, Places, Size. -/
namespace Go.Proofs.Ytkggdnkmaldmlaa
open Go.RowKit

theorem may6_any (t : Int) (w : World) (bb : Bool) (hbb : bb = decide (0 ≤ t ∧ t ≤ 3)) :
    Calls Try.prog 23 #[.int .i64 t] w fun e w' => e = .returned (.bool bb) ∧ w' = w := by
  by_cases h1 : 0 ≤ t
  · by_cases h2 : t ≤ 3
    · have hbt : bb = true := by rw [hbb]; exact decide_eq_true ⟨h1, h2⟩
      subst hbt
      have hd1 : decide (0 ≤ t) = true := decide_eq_true h1
      have hd2 : decide (t ≤ 3) = true := decide_eq_true h2
      clear hbb h1 h2
      go_enter Try.func23, Try.ntmps23
      go_wp2_with fail
      go_ret
      exact ⟨rfl, rfl⟩
    · have hbt : bb = false := by rw [hbb]; exact decide_eq_false (by omega)
      subst hbt
      have hd1 : decide (0 ≤ t) = true := decide_eq_true h1
      have hd2 : decide (t ≤ 3) = false := decide_eq_false h2
      clear hbb h1 h2
      go_enter Try.func23, Try.ntmps23
      go_wp2_with fail
      go_ret
      exact ⟨rfl, rfl⟩
  · have hbt : bb = false := by rw [hbb]; exact decide_eq_false (by omega)
    subst hbt
    have hd1 : decide (0 ≤ t) = false := decide_eq_false h1
    clear hbb h1
    go_enter Try.func23, Try.ntmps23
    go_wp2_with fail
    go_ret
    exact ⟨rfl, rfl⟩

/-- Places in memory. -/
def PlAt (w : World) (g t : Nat) : Prop := ∀ j, j < (plc t).length → w.cell? ⟨g, j, none⟩ = some (.int .i64 ((plc t)[j]?.getD 0))
theorem PlAt.kept {S : Nat → Prop} {w w' : World} {g t : Nat} (h : PlAt w g t) (f : Fr S w w') (h1 : ¬ S g) : PlAt w' g t := fun j hj => by
  rw [f.cellEq (seen_lt (h j hj)) h1]; exact h j hj
theorem plAt_new (w : World) (t : Nat) : PlAt (w.alloc (.cells ((plc t).map (Value.int .i64)).toArray 3)) w.heap.size t := fun j hj => by
  have h := heap_alloc_new w (.cells ((plc t).map (Value.int .i64)).toArray 3)
  unfold World.cell?
  rw [h]
  simp [hj]

set_option maxRecDepth 100000 in
set_option maxHeartbeats 2000000 in
theorem places0 (w : World) : Calls Try.prog 53 #[.int .i64 0] w fun e w' => e = .returned (.slice (some ⟨w.heap.size, 0, none⟩) 32 32) ∧ w' = w.alloc (.cells ((plc 0).map (Value.int .i64)).toArray 3) := by
  go_enter Try.func53, Try.ntmps53
  go_wp2_with fail
  go_ret
  exact ⟨rfl, rfl⟩
set_option maxRecDepth 100000 in
set_option maxHeartbeats 2000000 in
theorem places1 (w : World) : Calls Try.prog 53 #[.int .i64 1] w fun e w' => e = .returned (.slice (some ⟨w.heap.size, 0, none⟩) 26 26) ∧ w' = w.alloc (.cells ((plc 1).map (Value.int .i64)).toArray 3) := by
  go_enter Try.func53, Try.ntmps53
  go_wp2_with fail
  go_ret
  exact ⟨rfl, rfl⟩
set_option maxRecDepth 100000 in
set_option maxHeartbeats 2000000 in
theorem places2 (w : World) : Calls Try.prog 53 #[.int .i64 2] w fun e w' => e = .returned (.slice (some ⟨w.heap.size, 0, none⟩) 20 20) ∧ w' = w.alloc (.cells ((plc 2).map (Value.int .i64)).toArray 3) := by
  go_enter Try.func53, Try.ntmps53
  go_wp2_with fail
  go_ret
  exact ⟨rfl, rfl⟩
set_option maxRecDepth 100000 in
set_option maxHeartbeats 2000000 in
theorem places3 (w : World) : Calls Try.prog 53 #[.int .i64 3] w fun e w' => e = .returned (.slice (some ⟨w.heap.size, 0, none⟩) 20 20) ∧ w' = w.alloc (.cells ((plc 3).map (Value.int .i64)).toArray 3) := by
  go_enter Try.func53, Try.ntmps53
  go_wp2_with fail
  go_ret
  exact ⟨rfl, rfl⟩
theorem places_any (t : Nat) (ht : t < 4) (w : World) : Calls Try.prog 53 #[.int .i64 t] w fun e w' => e = .returned (.slice (some ⟨w.heap.size, 0, none⟩) (2 * bitsK t 3) (2 * bitsK t 3)) ∧ PlAt w' w.heap.size t ∧ Fr (fun _ => False) w w' := by
  match t, ht with
  | 0, _ => exact (places0 w).mono fun e w' ⟨h1, h2⟩ => ⟨h1, h2 ▸ plAt_new w 0, h2 ▸ (Fr.refl _ _).alloc _⟩
  | 1, _ => exact (places1 w).mono fun e w' ⟨h1, h2⟩ => ⟨h1, h2 ▸ plAt_new w 1, h2 ▸ (Fr.refl _ _).alloc _⟩
  | 2, _ => exact (places2 w).mono fun e w' ⟨h1, h2⟩ => ⟨h1, h2 ▸ plAt_new w 2, h2 ▸ (Fr.refl _ _).alloc _⟩
  | 3, _ => exact (places3 w).mono fun e w' ⟨h1, h2⟩ => ⟨h1, h2 ▸ plAt_new w 3, h2 ▸ (Fr.refl _ _).alloc _⟩

set_option maxRecDepth 100000 in
set_option maxHeartbeats 2000000 in
theorem size6_any (t : Nat) (ht : t < 4) (w : World) : Calls Try.prog 71 #[.int .i64 t] w fun e w' => e = .returned (.int .i64 (sizeT t : Nat)) ∧ Fr (fun _ => False) w w' := by
  have HP : Hid (∀ w', Calls Try.prog 53 #[.int .i64 t] w' fun e w'' => e = .returned (.slice (some ⟨w'.heap.size, 0, none⟩) (2 * bitsK t 3) (2 * bitsK t 3)) ∧ Fr (fun _ => False) w' w'') := fun w' => (places_any t ht w').mono fun e w'' ⟨h1, _, h3⟩ => ⟨h1, h3⟩
  have hb := bits_le t ht
  rw [show sizeT t = 2 ^ bitsK t 3 from rfl]
  clear ht
  generalize bitsK t 3 = k at *
  have hp : 2 ^ k ≤ 2 ^ 16 := Nat.pow_le_pow_right (by omega) hb
  have hce : ((2 : Int) ^ k) = ((2 ^ k : Nat) : Int) := by rw [Int.natCast_pow]; rfl
  have e1 : (2 * (k : Int)).tdiv 2 = (k : Int) := by rw [Int.tdiv_eq_ediv_of_nonneg (by omega)]; omega
  have e2 : IntKind.i64.wrap (k : Int) = (k : Int) := by rw [IntKind.wrap_i64]; omega
  have e3 : IntKind.u64.wrap (k : Int) = (k : Int) := by rw [IntKind.wrap_u64]; omega
  have e4 : IntKind.i64.wrap (2 ^ k) = 2 ^ k := by
    rw [hce, IntKind.wrap_i64]
    clear hce
    generalize 2 ^ k = Z at *
    omega
  have hmin : min k 64 = k := by omega
  have HCE : Hid (((2 : Int) ^ k) = ((2 ^ k : Nat) : Int)) := hce
  clear hce hp
  go_enter Try.func71, Try.ntmps71
  go_wp2_with fail
  refine (HP.out _).mono ?_
  rintro e w1 ⟨rfl, hf1⟩
  have HF1 : Hid (Fr (fun _ => False) w w1) := hf1
  clear hf1
  go_wp2_with fail
  go_ret
  exact ⟨by rw [← HCE.out]; rfl, HF1.out⟩

end Go.Proofs.Ytkggdnkmaldmlaa

/- The document's own contexts: At. -/
namespace Go.Proofs.Ytkggdnkmaldmlaa
open Go.RowKit

theorem pixI_get (W H : Nat) (P : Nat → Nat → Bool) (x y : Int) : (getPix W H P x y).toNat = pixI W H P x y := by
  unfold getPix pixI
  by_cases h : 0 ≤ x ∧ x < W ∧ 0 ≤ y ∧ y < H
  · rw [decide_eq_true h, if_pos h, Bool.true_and]
  · rw [decide_eq_false h, if_neg h, Bool.false_and]; rfl

set_option maxRecDepth 100000 in
set_option maxHeartbeats 4000000 in
theorem rat_any (W H : Nat) (v : Value) (P : Nat → Nat → Bool) (t g cg : Nat) (x y : Int) (w : World) (hb : Bm w v W H P) (ht : t < 4) (hp : PlAt w g t) (hx : -9223372036854775808 ≤ x ∧ x ≤ 9223372036854775807) (hy : -9223372036854775808 ≤ y ∧ y ≤ 9223372036854775807) :
    Calls Try.prog 56 #[.agg #[.int .i64 W, .int .i64 H, v], .slice (some ⟨g, 0, none⟩) (2 * bitsK t 3) cg, .int .i64 x, .int .i64 y] w fun e w' => e = .returned (.int .i64 (ctx (pixI W H P) t x y : Nat)) ∧ Fr (fun _ => False) w w' := by
  have HT : Hid (t < 4) := ht
  obtain ⟨f1, f2, f3⟩ := size_facts hb.h1 hb.h2 hb.h3
  have HB : Hid (∀ w', Fr (fun _ => False) w w' → Bm w' v W H P) := fun w' f => hb.kept f
  have HG : Hid (∀ (a b : Int) w', Fr (fun _ => False) w w' → Calls Try.prog 57 #[.agg #[.int .i64 W, .int .i64 H, v], .int .i64 a, .int .i64 b] w' fun e w'' => e = .returned (.int .i64 (pixI W H P a b : Nat)) ∧ Fr (fun _ => False) w' w'') := fun a b w' hf => by
    have h := zget_any W H v P a b w' (hb.seen.kept hf) hb.h1 hb.h2 hb.h3
    rwa [pixI_get] at h
  have HPl : Hid (∀ w', Fr (fun _ => False) w w' → ∀ j, j < bitsK t 3 → w'.cell? ⟨g, 2 * j, none⟩ = some (.int .i64 (pX t j)) ∧ w'.cell? ⟨g, 2 * j + 1, none⟩ = some (.int .i64 (pY t j))) := fun w' hf j hj => by
    have hl := plc_length t ht
    exact ⟨(hp.kept hf (fun h => h)) (2 * j) (by omega), (hp.kept hf (fun h => h)) (2 * j + 1) (by omega)⟩
  have hbl := bits_le t ht
  have HC : Hid (gth (pixI W H P) t x y (bitsK t 3) = ctx (pixI W H P) t x y) := gth_ctx _ t x y ht
  obtain ⟨ao, cap, rfl, _, _⟩ := hb.seen
  have HBX : Hid (∀ w', Fr (fun _ => False) (w.alloc (.cells #[.int .i64 W, .int .i64 H, .slice ao (render W H P).length cap] 26)) w' → w'.cell? ⟨w.heap.size, 0, none⟩ = some (.int .i64 W) ∧ w'.cell? ⟨w.heap.size, 1, none⟩ = some (.int .i64 H) ∧ w'.cell? ⟨w.heap.size, 2, none⟩ = some (.slice ao (render W H P).length cap)) := fun w' hf => by
    obtain ⟨c0, c1, c2, _⟩ := cell_of_three (blkOld hf (heap_alloc_new w (.cells #[.int .i64 W, .int .i64 H, .slice ao (render W H P).length cap] 26)))
    exact ⟨c0, c1, c2⟩
  generalize (render W H P).length = n at *
  have HA : Hid (Fr (fun _ => False) w (w.alloc (.cells #[.int .i64 W, .int .i64 H, .slice ao n cap] 26))) := (Fr.refl _ _).alloc _
  have hwW : IntKind.i64.wrap ((W : Int) + 10) = (W : Int) + 10 := by rw [IntKind.wrap_i64]; omega
  have hwH : IntKind.i64.wrap ((H : Int) + 10) = (H : Int) + 10 := by rw [IntKind.wrap_i64]; omega
  have HW : Hid (W ≤ 1048576 ∧ H ≤ 1048576) := ⟨f1, f2⟩
  clear hb ht hp f3
  by_cases hfar : x < -10 ∨ y < -10 ∨ (W : Int) + 10 < x ∨ (H : Int) + 10 < y
  · have HE : Hid (ctx (pixI W H P) t x y = 0) := ctx_far W H P t x y HT.out (by omega)
    rw [HE.out]
    rcases (show x < -10 ∨ (¬ x < -10 ∧ (y < -10 ∨ (¬ y < -10 ∧ ((W : Int) + 10 < x ∨ (¬ (W : Int) + 10 < x ∧ (H : Int) + 10 < y))))) by omega) with h1 | ⟨h1, h2 | ⟨h2, h3 | ⟨h3, h4⟩⟩⟩
    · have hd1 : decide (x < -10) = true := decide_eq_true h1
      clear hfar h1
      go_enter Try.func56, Try.ntmps56
      go_wp2_with fail
      go_ret
      exact ⟨rfl, HA.out⟩
    · have hd1 : decide (x < -10) = false := decide_eq_false h1
      have hd2 : decide (y < -10) = true := decide_eq_true h2
      clear hfar h1 h2
      go_enter Try.func56, Try.ntmps56
      go_wp2_with fail
      go_ret
      exact ⟨rfl, HA.out⟩
    · have hd1 : decide (x < -10) = false := decide_eq_false h1
      have hd2 : decide (y < -10) = false := decide_eq_false h2
      have hd3 : decide ((W : Int) + 10 < x) = true := decide_eq_true h3
      clear hfar h1 h2 h3
      go_enter Try.func56, Try.ntmps56
      go_wp2_with fail
      go_ret
      exact ⟨rfl, HA.out⟩
    · have hd1 : decide (x < -10) = false := decide_eq_false h1
      have hd2 : decide (y < -10) = false := decide_eq_false h2
      have hd3 : decide ((W : Int) + 10 < x) = false := decide_eq_false h3
      have hd4 : decide ((H : Int) + 10 < y) = true := decide_eq_true h4
      clear hfar h1 h2 h3 h4
      go_enter Try.func56, Try.ntmps56
      go_wp2_with fail
      go_ret
      exact ⟨rfl, HA.out⟩
  · have hd1 : decide (x < -10) = false := decide_eq_false (by omega)
    have hd2 : decide (y < -10) = false := decide_eq_false (by omega)
    have hd3 : decide ((W : Int) + 10 < x) = false := decide_eq_false (by omega)
    have hd4 : decide ((H : Int) + 10 < y) = false := decide_eq_false (by omega)
    have HXY : Hid (-10 ≤ x ∧ x ≤ W + 10 ∧ -10 ≤ y ∧ y ≤ H + 10) := ⟨by omega, by omega, by omega, by omega⟩
    rw [← HC.out]
    have HGl : Hid (∀ j, j ≤ bitsK t 3 → gth (pixI W H P) t x y j < 65537) := fun j hj => by
      have h1 := gth_lt (pixI W H P) (pixI_le W H P) t x y j
      have h2 : 2 ^ j ≤ 2 ^ 16 := Nat.pow_le_pow_right (by omega) (by omega)
      omega
    generalize bitsK t 3 = K at *
    clear hfar hx hy
    go_enter Try.func56, Try.ntmps56
    go_wp2_with fail
    generalize w.alloc (.cells #[.int .i64 W, .int .i64 H, .slice ao n cap] 26) = w0 at *
    go_loopw [9, 10] (fun s i wr => ∃ j : Nat, j ≤ K ∧ s = .int .i64 (gth (pixI W H P) t x y j : Nat) ∧ i = .int .i64 (2 * (j : Int)) ∧ Fr (fun _ => False) w0 wr) (fun _ i _ => (2 * (K : Int) + 2 - intOf i).toNat)
    case atStart => exact ⟨0, Nat.zero_le _, rfl, rfl, Fr.refl _ _⟩
    case round =>
      obtain ⟨j, hj, rfl, rfl, hfr⟩ := hrel
      have HFr : Hid (Fr (fun _ => False) w0 wr) := hfr
      clear hfr
      by_cases hjK : j < K
      · have hps := plc_small t HT.out j
        have hst : gth (pixI W H P) t x y (j + 1) = 2 * gth (pixI W H P) t x y j + pixI W H P (x + pX t j) (y + pY t j) := rfl
        have hgl := HGl.out (j + 1) hjK
        have hdl : decide (2 * (j : Int) < 2 * (K : Int)) = true := decide_eq_true (by omega)
        have hdl2 : decide (2 * j < 2 * K) = true := decide_eq_true (by omega)
        have hdl3 : decide (j < K) = true := decide_eq_true (by omega)
        have HS : Hid (∀ w', Fr (fun _ => False) wr w' → (w'.cell? ⟨w.heap.size, 0, none⟩ = some (.int .i64 W) ∧ w'.cell? ⟨w.heap.size, 1, none⟩ = some (.int .i64 H) ∧ w'.cell? ⟨w.heap.size, 2, none⟩ = some (.slice ao n cap)) ∧ w'.cell? ⟨g, 2 * j, none⟩ = some (.int .i64 (pX t j)) ∧ w'.cell? ⟨g, 2 * j + 1, none⟩ = some (.int .i64 (pY t j))) := fun w' hf => by
          have h1 := HFr.out.trans hf (fun _ _ h => h)
          exact ⟨HBX.out _ h1, HPl.out _ (HA.out.trans h1 (fun _ _ h => h)) j hjK⟩
        have HGt : Hid (∀ w', Fr (fun _ => False) wr w' → Calls Try.prog 57 #[.agg #[.int .i64 W, .int .i64 H, .slice ao n cap], .int .i64 (x + pX t j), .int .i64 (y + pY t j)] w' fun e w'' => e = .returned (.int .i64 (pixI W H P (x + pX t j) (y + pY t j) : Nat)) ∧ Fr (fun _ => False) w' w'') := fun w' hf => HG.out _ _ _ (HA.out.trans (HFr.out.trans hf (fun _ _ h => h)) (fun _ _ h => h))
        have HST : Hid (gth (pixI W H P) t x y (j + 1) = 2 * gth (pixI W H P) t x y j + pixI W H P (x + pX t j) (y + pY t j)) := hst
        have hw1 : IntKind.i64.wrap (x + pX t j) = x + pX t j := by rw [IntKind.wrap_i64]; have := HXY.out; have := HW.out; omega
        have hw2 : IntKind.i64.wrap (y + pY t j) = y + pY t j := by rw [IntKind.wrap_i64]; have := HXY.out; have := HW.out; omega
        rw [hst] at hgl
        generalize gth (pixI W H P) t x y j = G at *
        generalize pixI W H P (x + pX t j) (y + pY t j) = p at *
        generalize pX t j = px at *
        generalize pY t j = py at *
        have hw3 : IntKind.i64.wrap (2 * (G : Int)) = 2 * (G : Int) := by rw [IntKind.wrap_i64]; omega
        have hw4 : IntKind.i64.wrap (2 * (G : Int) + (p : Int)) = 2 * (G : Int) + (p : Int) := by rw [IntKind.wrap_i64]; omega
        have hw5 : IntKind.i64.wrap (2 * (j : Int) + 1) = 2 * (j : Int) + 1 := by rw [IntKind.wrap_i64]; omega
        have hw6 : IntKind.i64.wrap (2 * (j : Int) + 2) = 2 * (j : Int) + 2 := by rw [IntKind.wrap_i64]; omega
        have hi1 : (2 * (j : Int)).toNat = 2 * j := by omega
        have hi2 : (2 * (j : Int) + 1).toNat = 2 * j + 1 := by omega
        have hj1 : (0 : Int) ≤ 2 * (j : Int) := by omega
        have hj2 : 2 * (j : Int) < 2 * (K : Int) := by omega
        have hj3 : (0 : Int) ≤ 2 * (j : Int) + 1 := by omega
        have hj4 : 2 * (j : Int) + 1 < 2 * (K : Int) := by omega
        clear hps hst hgl
        go_wp2_with fail
        obtain ⟨⟨c0, c1, c2⟩, d0, d1⟩ := HS.out wr (Fr.refl _ _)
        go_region_held3 (fun w' => w'.cell? ⟨w.heap.size, 0, none⟩ = some (.int .i64 W) ∧ w'.cell? ⟨w.heap.size, 1, none⟩ = some (.int .i64 H) ∧ w'.cell? ⟨w.heap.size, 2, none⟩ = some (.slice ao n cap) ∧ w'.cell? ⟨g, 2 * j, none⟩ = some (.int .i64 px) ∧ w'.cell? ⟨g, 2 * j + 1, none⟩ = some (.int .i64 py)) (exact (fun h => ⟨h.1.1, h.1.2.1, h.1.2.2, h.2⟩) (HS.out _ (by repeat (first | with_reducible exact Fr.refl _ _ | with_reducible refine Fr.drew ?_ | with_reducible refine Fr.trans ?_ hf7 (fun _ _ hh => hh))))) (first | (go_at_call 57; refine (HGt.out _ (by first | exact (Fr.refl _ _).drew | exact Fr.refl _ _)).mono ?_; rintro e w7 ⟨rfl, hf7⟩))
        all_goals go_wp2_with fail
        all_goals go_roundw
        all_goals first
          | exact ⟨j + 1, by omega, congrArg (Value.int .i64) (by rw [HST.out]; omega), congrArg (Value.int .i64) (by omega), HFr.out.trans ((Fr.refl (fun _ => False) wr).drew.trans hf7 (fun _ _ hh => hh)) (fun _ _ hh => hh)⟩
          | (simp [intOf]; omega)
      · obtain rfl : j = K := by omega
        have hdl : decide (2 * (j : Int) < 2 * (j : Int)) = false := decide_eq_false (by omega)
        go_wp2_with fail
        go_ret
        exact ⟨rfl, HA.out.trans HFr.out (fun _ _ h => h)⟩

end Go.Proofs.Ytkggdnkmaldmlaa

/- 'LendBitmap' and 'BackBitmap'. -/
namespace Go.Proofs.Ytkggdnkmaldmlaa
open Go.RowKit

def marks (l : List Nat) (k : Nat) : List Nat := l ++ List.replicate k 42405
theorem marks_zero (l : List Nat) : marks l 0 = l := by simp [marks]
theorem marks_succ (l : List Nat) (k : Nat) : marks l (k + 1) = marks l k ++ [42405] := by unfold marks; rw [List.replicate_succ', List.append_assoc]
theorem length_marks (l : List Nat) (k : Nat) : (marks l k).length = l.length + k := by simp [marks]
theorem marks_get (l : List Nat) (k : Nat) (h : k < 7) : (marks l 7)[l.length + k]? = some 42405 := by
  unfold marks
  rw [List.getElem?_append_right (by omega), show l.length + k - l.length = k from by omega, List.getElem?_replicate, if_pos h]
theorem marks_front (l : List Nat) : (marks l 7).take l.length = l := by
  unfold marks
  rw [List.take_left]
theorem row_shrink {w : World} {b e g n k cap : Nat} {xs : List Value} (h : w.ownsRow b e 1 (.slice (some ⟨g, 0, none⟩) n cap) n xs) (hk : k ≤ n) : w.ownsRow b e 1 (.slice (some ⟨g, 0, none⟩) k cap) k (xs.take k) := by
  obtain ⟨h1, h2⟩ := h
  refine ⟨by rw [List.length_take]; omega, ?_⟩
  rcases h2 with ⟨e, _⟩ | ⟨g', cap', cur, hv, hb, hg, hc, hm, hs, ht⟩
  · cases e
  · simp only [Value.slice.injEq, Option.some.injEq, Addr.mk.injEq, true_and, and_true] at hv
    obtain ⟨rfl, rfl⟩ := hv
    refine Or.inr ⟨g, cap, cur, rfl, hb, hg, by omega, hm, hs, ?_⟩
    rw [← ht, List.take_take]
    congr 1; omega

/-- Nil is nothing. -/
def NilOK (v : Value) : Prop := ∀ n c, v = .slice none n c → n = 0 ∧ c = 0

/-- Words that are lent, with marks behind them. -/
def Lent (w : World) (g : Nat) (l : List Nat) : Prop := w.ownsRow 0 83 1 (.slice (some ⟨g, 0, none⟩) (l.length + 7) (l.length + 7)) (l.length + 7) (wordCells (marks l 7))
theorem Lent.kept {S : Nat → Prop} {w w' : World} {g : Nat} {l : List Nat} (h : Lent w g l) (f : Fr S w w') (h1 : ¬ S g) : Lent w' g l :=
  row_kept h f (fun k hk => by simp [Value.ownBlock] at hk; subst hk; exact h1)
theorem Lent.lt {w : World} {g : Nat} {l : List Nat} (h : Lent w g l) : g < w.heap.size := (World.ownsRow.lt h g rfl).2
theorem Lent.seen {w : World} {g : Nat} {l : List Nat} (h : Lent w g l) (hl : l.length ≤ 1048576) : Seen w (.slice (some ⟨g, 0, none⟩) l.length (l.length + 7)) l := by
  have h1 := row_shrink (k := l.length) h (by omega)
  rw [wordCells_take, marks_front] at h1
  exact Seen.of_row h1 (by omega)

set_option maxRecDepth 100000 in
set_option maxHeartbeats 2000000 in
theorem eqBitmap_int (W H : Int) (v u : Value) (l : List Nat) (w : World) (ha : Seen w v l) (hb : Seen w u l) :
    Calls Try.prog 21 #[.agg #[.int .i64 W, .int .i64 H, v], .agg #[.int .i64 W, .int .i64 H, u]] w fun e w' => e = .returned (.bool true) ∧ Fr (fun _ => False) w w' := by
  have HQ : Hid (∀ w', Fr (fun _ => False) w w' → Calls Try.prog 43 #[v, u] w' fun e w'' => e = .returned (.bool true) ∧ ∃ q, w'' = w'.drewN q) := fun w' hf => eqw_same v u l l w' (ha.kept hf) (hb.kept hf) rfl true (by show true = _; simp)
  obtain ⟨ao, ca, rfl, hla, _⟩ := ha
  obtain ⟨bo, cb, rfl, hlb, _⟩ := hb
  have hw1 : (W == W) = true := by simp
  have hw2 : (H == H) = true := by simp
  go_enter Try.func21, Try.ntmps21
  go_wp2_with fail
  refine (HQ.out _ (((Fr.refl _ _).alloc _).alloc _)).mono ?_
  rintro e w1 ⟨rfl, q, hw1⟩
  have HF : Hid (Fr (fun _ => False) w w1) := by rw [hw1]; exact (((Fr.refl _ _).alloc _).alloc _).drewN q
  clear hw1
  go_wp2_with fail
  go_ret
  exact ⟨rfl, HF.out⟩

set_option maxRecDepth 100000 in
set_option maxHeartbeats 8000000 in
theorem lendB_any (x y : Int) (v : Value) (l : List Nat) (w : World) (hv : Seen w v l) (hnil : NilOK v) (hl : l.length ≤ 1000) :
    Calls Try.prog 10 #[.agg #[.int .i64 x, .int .i64 y, v]] w fun e w' => ∃ g, e = .returned (.agg #[.int .i64 x, .int .i64 y, .slice (some ⟨g, 0, none⟩) l.length (l.length + 7)]) ∧ Lent w' g l ∧ w.heap.size ≤ g ∧ Fr (fun _ => False) w w' := by
  obtain ⟨i0, hi, hz0, hz1, hz2⟩ := info_parts Try.info139
  have HSeen : Hid (∀ w', Fr (fun _ => False) w w' → Seen w' v l) := fun w' hf => hv.kept hf
  obtain ⟨ao, cap, rfl, _, _⟩ := hv
  have HNO : Hid (ao = none → l.length = 0 ∧ cap = 0) := fun e => hnil _ _ (by rw [e])
  have HLE : Hid (∀ (u : World) (g n : Nat), n = l.length → u.ownsRow 0 83 1 (.slice (some ⟨g, 0, none⟩) (n + 7) (n + 7)) (n + 7) (wordCells (marks l 7)) → Lent u g l) := fun u g n e h => by subst e; exact h
  obtain ⟨n, hn⟩ : ∃ n, n = l.length := ⟨_, rfl⟩
  rw [← hn] at hl HNO ⊢
  have HN : Hid (n = l.length) := hn
  have HA : Hid (Fr (fun _ => False) w ((w.alloc (.cells #[.int .i64 x, .int .i64 y, .slice ao n cap] 26)).alloc (.cells #[.int .i64 0, .int .i64 0, .slice none 0 0] 26))) := ((Fr.refl _ _).alloc _).alloc _
  have HSeen2 : Hid (∀ w', Fr (fun _ => False) w w' → Seen w' (.slice ao n cap) l) := by rw [hn]; exact HSeen.out
  clear hn hnil HSeen
  have HB1 : Hid (∀ w', Fr (fun _ => False) ((w.alloc (.cells #[.int .i64 x, .int .i64 y, .slice ao n cap] 26)).alloc (.cells #[.int .i64 0, .int .i64 0, .slice none 0 0] 26)) w' → w'.heap[w.heap.size]? = some (.cells #[.int .i64 x, .int .i64 y, .slice ao n cap] 26 (0, 0)) ∧ w'.heap[w.heap.size + 1]? = some (.cells #[.int .i64 0, .int .i64 0, .slice none 0 0] 26 (0, 0))) := fun w' hf =>
    ⟨blkOld hf (blkUp (heap_alloc_new _ _) _), blkOld hf (by have := heap_alloc_new (w.alloc (.cells #[.int .i64 x, .int .i64 y, .slice ao n cap] 26)) (.cells #[.int .i64 0, .int .i64 0, .slice none 0 0] 26); rwa [World.size_alloc] at this)⟩
  have hw7 : IntKind.i64.wrap ((n : Int) + 7) = ((n + 7 : Nat) : Int) := by rw [IntKind.wrap_i64]; omega
  go_enter Try.func10, Try.ntmps10
  go_upto_region 1 with (fail)
  generalize hw0 : (w.alloc (.cells #[.int .i64 x, .int .i64 y, .slice ao n cap] 26)).alloc (.cells #[.int .i64 0, .int .i64 0, .slice none 0 0] 26) = w0 at *
  have HSZ : Hid (w0.heap.size = w.heap.size + 2) := by show _ = _; rw [← hw0]; simp
  clear hw0
  obtain ⟨kb1, _⟩ := HB1.out w0 (Fr.refl _ _)
  obtain ⟨c0, c1, c2, _⟩ := cell_of_three kb1
  clear kb1
  obtain ⟨B, hB⟩ : ∃ B, B = w0.heap.size := ⟨_, rfl⟩
  go_wp2_with (first | (at_make; refine wpList_make_own _ rfl _ _ 24 rfl B 83 i0 (.int .u64 0) 1 Try.underlying24 hi hz0 hz1 .i64 .i64 _ (n + 7) rfl rfl ?_ ?_ ?_ ?_ ?_))
  · omega
  · rw [hz2]; omega
  · unfold maxLen; omega
  · omega
  · intro w1 hown1 hgrow1
    have HF1 : Hid (Fr (fun _ => False) w0 w1) := (Fr.refl _ _).grown hgrow1 (fun k hk _ => by cases hk)
    rw [← hB] at hown1 ⊢
    have HBE : Hid (B = w0.heap.size) := hB
    have HS1 : Hid (Seen w1 (.slice ao n cap) l) := HSeen2.out _ (HA.out.trans HF1.out (fun _ _ h => h))
    obtain ⟨kb1, _⟩ := HB1.out w1 HF1.out
    clear c0 c1 c2
    obtain ⟨c0, c1, c2, _⟩ := cell_of_three kb1
    clear hgrow1 hB kb1
    go_wp2_with (first | (at_builtin; refine wpList_append_fits_any _ rfl _ _ 24 rfl B 83 i0 1 Try.underlying24 hi hz1 B 0 (n + 7) [] rfl hown1 ao n cap (wordCells l) rfl ?_ ?_ ?_ ?_ ?_ ?_))
    · rw [length_wordCells, ← HN.out]; omega
    · intro e
      exact HNO.out e
    · intro ad e j u hu
      have hne : l ≠ [] := by intro e2; rw [e2] at hu; simp [wordCells] at hu
      obtain ⟨ao', cap', e4, _, hcc⟩ := HS1.out
      obtain ⟨b, off, e3, hc⟩ := hcc hne
      simp only [Value.slice.injEq] at e4
      rw [e4.1, e3] at e
      simp only [Option.some.injEq] at e
      subst e
      rw [wordCells_get] at hu
      have hj : j < l.length := by
        rcases Nat.lt_or_ge j l.length with h | h
        · exact h
        · rw [List.getElem?_eq_none h] at hu; simp at hu
      rw [List.getElem?_eq_getElem hj] at hu
      simp at hu
      subst hu
      rw [show (⟨b, off, none⟩ : Addr).add j = ⟨b, off + j, none⟩ from by unfold Addr.add; split <;> simp_all]
      have h1 := hc j hj
      rw [List.getElem?_eq_getElem hj] at h1
      exact h1
    · exact wordCells_one l
    · omega
    · intro w2 hown2 hgrow2
      have HF2 : Hid (Fr (fun _ => False) w0 w2) := HF1.out.grown hgrow2 (fun k hk hlt => by simp at hk; have := HBE.out; omega)
      have HO2 : Hid (w2.ownsRow B 83 1 (.slice (some ⟨B, 0, none⟩) (n + 0) (n + 7)) (n + 0) (wordCells (marks l 0))) := by
        rw [marks_zero]
        exact hown2
      clear hown1 hown2 hgrow2 c0 c1 c2
      go_wp2_with fail
      go_loopw [3, 4] (fun x i wr => ∃ k : Nat, k ≤ 7 ∧ i = .int .i64 k ∧ x = .slice (some ⟨B, 0, none⟩) (n + k) (n + 7) ∧ wr.ownsRow B 83 1 (.slice (some ⟨B, 0, none⟩) (n + k) (n + 7)) (n + k) (wordCells (marks l k)) ∧ Fr (fun _ => False) w0 wr) (fun _ i _ => 7 - (intOf i).toNat)
      case atStart => exact ⟨0, by omega, rfl, by simp, HO2.out, HF2.out⟩
      case round =>
        obtain ⟨k, hk, rfl, rfl, hown, hfr⟩ := hrel
        have HO : Hid (wr.ownsRow B 83 1 (.slice (some ⟨B, 0, none⟩) (n + k) (n + 7)) (n + k) (wordCells (marks l k))) := hown
        have HF3 : Hid (Fr (fun _ => False) w0 wr) := hfr
        have hs : B ≤ wr.heap.size := by have := hfr.size; have := HBE.out; omega
        clear hfr
        by_cases hlt : k < 7
        · go_wp2_with (first | (at_builtin; refine wpList_append_fits _ rfl _ _ 24 rfl B 83 i0 1 Try.underlying24 hi hz1 B (n + k) (n + 7) (wordCells (marks l k)) rfl (hown.alloc _) ⟨wr.heap.size, 0, none⟩ 1 1 _ rfl rfl (cell_one_new _ _ _) ?_ ?_ ?_))
          · intro u hu; simp at hu; subst hu; rfl
          · omega
          · intro w3 hown3 hgrow3
            have HO3 : Hid (w3.ownsRow B 83 1 (.slice (some ⟨B, 0, none⟩) (n + (k + 1)) (n + 7)) (n + (k + 1)) (wordCells (marks l (k + 1)))) := by
              rw [marks_succ, wordCells_append, show n + (k + 1) = n + k + 1 from by omega]; exact hown3
            have HF4 : Hid (Fr (fun _ => False) w0 w3) := (HF3.out.alloc _).grown hgrow3 (fun k hk hlt => by simp at hk; have := HBE.out; omega)
            clear hown3 hgrow3 hown
            go_wp2_with fail
            go_roundw
            case rel => exact ⟨k + 1, by omega, congrArg (Value.int .i64) (by omega), by rw [show n + (k + 1) = n + k + 1 from by omega], HO3.out, HF4.out⟩
            case measure => simp [intOf]; omega
        · have hk7 : k = 7 := by omega
          subst hk7
          clear hown
          obtain ⟨kb1, kb2⟩ := HB1.out wr HF3.out
          obtain ⟨c0, c1, c2, _⟩ := cell_of_three kb1
          obtain ⟨d0, d1, d2, df⟩ := cell_of_three kb2
          have z0 := df 0
          have z1 := df 1
          have z2 := df 2
          have HKB : Hid (wr.heap[w.heap.size + 1]? = some (.cells #[.int .i64 0, .int .i64 0, .slice none 0 0] 26 (0, 0))) := kb2
          clear kb1 kb2 df
          have hn0 : (0 : Int) ≤ (n : Int) := by omega
          have hn7 : (n : Int) ≤ ((n + 7 : Nat) : Int) := by omega
          go_wp2_with fail
          go_region
          all_goals
            go_wp2_with fail
            have hb5 := set3_cells HKB.out (.int .i64 x) (.int .i64 y) (.slice (some ⟨B, 0, none⟩) n (n + 7))
            have hfz : Fr (fun k => k = w.heap.size + 1) wr (((wr.setCell ⟨w.heap.size + 1, 0, none⟩ (.int .i64 x)).setCell ⟨w.heap.size + 1, 1, none⟩ (.int .i64 y)).setCell ⟨w.heap.size + 1, 2, none⟩ (.slice (some ⟨B, 0, none⟩) n (n + 7))) := (((Fr.refl (fun k => k = w.heap.size + 1) wr).setCell (p := ⟨w.heap.size + 1, 0, none⟩) (fun _ => rfl) _).setCell (p := ⟨w.heap.size + 1, 1, none⟩) (fun _ => rfl) _).setCell (p := ⟨w.heap.size + 1, 2, none⟩) (fun _ => rfl) _
            have hsz := HSZ.out
            have hbe := HBE.out
            have HR : Hid (Lent (((wr.setCell ⟨w.heap.size + 1, 0, none⟩ (.int .i64 x)).setCell ⟨w.heap.size + 1, 1, none⟩ (.int .i64 y)).setCell ⟨w.heap.size + 1, 2, none⟩ (.slice (some ⟨B, 0, none⟩) n (n + 7))) B l) := HLE.out _ _ n HN.out (row_kept (ownsRow_base HO.out (fun _ _ => Nat.zero_le _)) hfz (fun k hk => by simp [Value.ownBlock] at hk; omega))
            have HF : Hid (Fr (fun _ => False) w (((wr.setCell ⟨w.heap.size + 1, 0, none⟩ (.int .i64 x)).setCell ⟨w.heap.size + 1, 1, none⟩ (.int .i64 y)).setCell ⟨w.heap.size + 1, 2, none⟩ (.slice (some ⟨B, 0, none⟩) n (n + 7)))) := (HA.out.trans HF3.out (fun _ _ h => h)).trans hfz (fun i hi e => by omega)
            generalize (((wr.setCell ⟨w.heap.size + 1, 0, none⟩ (.int .i64 x)).setCell ⟨w.heap.size + 1, 1, none⟩ (.int .i64 y)).setCell ⟨w.heap.size + 1, 2, none⟩ (.slice (some ⟨B, 0, none⟩) n (n + 7))) = w5 at *
            obtain ⟨m0, m1, m2, _⟩ := cell_of_three hb5
            refine bodyPost_ret (v := .agg #[.int .i64 x, .int .i64 y, (.slice (some ⟨B, 0, none⟩) n (n + 7))]) (by simp [results, Try.results10, go_sem, m0, m1, m2]) rfl ?_
            exact ⟨B, rfl, HR.out.kept (Fr.refl (fun _ => False) _).drew (fun h => h), by omega, HF.out.drew⟩

set_option maxRecDepth 100000 in
set_option maxHeartbeats 8000000 in
theorem backB_any (x y : Int) (g : Nat) (u : Value) (l : List Nat) (w : World) (hl : l.length ≤ 1000) (hr : Lent w g l) (hu : Seen w u l) :
    Calls Try.prog 13 #[.agg #[.int .i64 x, .int .i64 y, .slice (some ⟨g, 0, none⟩) l.length (l.length + 7)], .agg #[.int .i64 x, .int .i64 y, u]] w fun e w' => e = .returned (.bool true) ∧ Fr (fun k => k = g) w w' := by
  have HE : Hid (∀ w', Fr (fun _ => False) w w' → Calls Try.prog 21 #[.agg #[.int .i64 x, .int .i64 y, .slice (some ⟨g, 0, none⟩) l.length (l.length + 7)], .agg #[.int .i64 x, .int .i64 y, u]] w' fun e w'' => e = .returned (.bool true) ∧ Fr (fun _ => False) w' w'') := fun w' hf => eqBitmap_int x y _ _ l w' ((hr.kept hf (fun h => h)).seen (by omega)) (hu.kept hf)
  have HG : Hid (g < w.heap.size) := hr.lt
  have HR0 : Hid (∀ n, n = l.length → ∀ w', Fr (fun _ => False) w w' → w'.ownsRow 0 83 1 (.slice (some ⟨g, 0, none⟩) (n + 7) (n + 7)) (n + 7) (wordCells (marks l 7))) := fun n e w' hf => by subst e; exact hr.kept hf (fun h => h)
  obtain ⟨uo, ucap, rfl, _, _⟩ := hu
  clear hr
  obtain ⟨n, hn⟩ : ∃ n, n = l.length := ⟨_, rfl⟩
  rw [← hn] at hl HE ⊢
  have HN : Hid (n = l.length) := hn
  clear hn
  have HA : Hid (Fr (fun _ => False) w ((w.alloc (.cells #[.int .i64 x, .int .i64 y, .slice (some ⟨g, 0, none⟩) n (n + 7)] 26)).alloc (.cells #[.int .i64 x, .int .i64 y, .slice uo n ucap] 26))) := ((Fr.refl _ _).alloc _).alloc _
  have HB : Hid (∀ w', Fr (fun _ => False) ((w.alloc (.cells #[.int .i64 x, .int .i64 y, .slice (some ⟨g, 0, none⟩) n (n + 7)] 26)).alloc (.cells #[.int .i64 x, .int .i64 y, .slice uo n ucap] 26)) w' → w'.cell? ⟨w.heap.size, 2, none⟩ = some (.slice (some ⟨g, 0, none⟩) n (n + 7)) ∧ w'.cell? ⟨w.heap.size + 1, 2, none⟩ = some (.slice uo n ucap)) := fun w' hf => by
    obtain ⟨_, _, a2, _⟩ := cell_of_three (blkOld hf (blkUp (heap_alloc_new w (.cells #[.int .i64 x, .int .i64 y, .slice (some ⟨g, 0, none⟩) n (n + 7)] 26)) _))
    obtain ⟨_, _, b2, _⟩ := cell_of_three (blkOld hf (by have := heap_alloc_new (w.alloc (.cells #[.int .i64 x, .int .i64 y, .slice (some ⟨g, 0, none⟩) n (n + 7)] 26)) (.cells #[.int .i64 x, .int .i64 y, .slice uo n ucap] 26); rwa [World.size_alloc] at this))
    exact ⟨a2, b2⟩
  have hw7 : IntKind.i64.wrap ((n : Int) + 7) = (n : Int) + 7 := by rw [IntKind.wrap_i64]; omega
  go_enter Try.func13, Try.ntmps13
  go_wp2_with fail
  refine (HE.out _ HA.out).mono ?_
  rintro e w1 ⟨rfl, hf1⟩
  have HR1 : Hid (w1.ownsRow 0 83 1 (.slice (some ⟨g, 0, none⟩) (n + 7) (n + 7)) (n + 7) (wordCells (marks l 7))) := HR0.out n HN.out _ (HA.out.trans hf1 (fun _ _ h => h))
  have HF1 : Hid (Fr (fun k => k = g) w w1) := (HA.out.trans hf1 (fun _ _ h => h)).mono (fun _ _ h => h.elim)
  obtain ⟨c2, d2⟩ := HB.out _ hf1
  clear hf1 HE HR0
  go_wp2_with fail
  go_loop [5, 7] (fun ok i => ∃ k : Nat, k ≤ 7 ∧ ok = .bool true ∧ i = .int .i64 ((n : Int) + (k : Int))) (fun _ i => n + 7 - (intOf i).toNat)
  case atStart => exact ⟨0, by omega, rfl, by simp⟩
  case round =>
    obtain ⟨k, hk, rfl, rfl⟩ := hrel
    by_cases hlt : k < 7
    · have hcx : w1.cell? ⟨g, n + k, none⟩ = some (.int .u64 42405) := by
        rw [HR1.out.cellAt (n + k) (by omega), wordCells_get, HN.out, marks_get l k hlt]; rfl
      go_wp2_with fail
      go_round
      case rel => exact ⟨k + 1, by omega, rfl, congrArg (Value.int .i64) (by omega)⟩
      case measure => simp [intOf]; omega
    · have hk7 : k = 7 := by omega
      subst hk7
      go_wp2_with fail
      go_loopw [8] (fun i wr => ∃ (k : Nat) (ys : List Value), k ≤ n + 7 ∧ i = .int .i64 k ∧ wr.ownsRow 0 83 1 (.slice (some ⟨g, 0, none⟩) (n + 7) (n + 7)) (n + 7) ys ∧ Fr (fun k => k = g) w wr) (fun i _ => n + 7 - (intOf i).toNat)
      case atStart => exact ⟨0, _, Nat.zero_le _, rfl, HR1.out, HF1.out⟩
      case round =>
        obtain ⟨k, ys, hk, rfl, hown, hfr⟩ := hrel
        have HO2 : Hid (wr.ownsRow 0 83 1 (.slice (some ⟨g, 0, none⟩) (n + 7) (n + 7)) (n + 7) ys) := hown
        have HF2 : Hid (Fr (fun k => k = g) w wr) := hfr
        by_cases hlt : k < n + 7
        · have hcx : ∃ x, wr.cell? ⟨g, k, none⟩ = some x := by
            rw [hown.cellAt k (by omega)]
            have hl := hown.1
            exact ⟨_, List.getElem?_eq_getElem (by omega)⟩
          obtain ⟨x, hcx⟩ := hcx
          have hfx := hown.frozenAt k
          clear hown hfr
          go_wp2_with fail
          go_roundw
          case rel => exact ⟨k + 1, _, by omega, congrArg (Value.int .i64) (by omega), (HO2.out.stored k _).1, HF2.out.setCell (p := ⟨g, k, none⟩) (fun _ => rfl) _⟩
          case measure => simp [intOf]; omega
        · clear hown hfr
          go_wp2_with fail
          go_ret
          exact ⟨rfl, HF2.out⟩

end Go.Proofs.Ytkggdnkmaldmlaa

/- Asks that are handed in. -/
namespace Go.Proofs.Ytkggdnkmaldmlaa
open Go.RowKit

/-- An Ask as it is handed in. -/
structure Ak where
  x : Int
  y : Int
  v : Value
  l : List Nat
  t : Int
  sk : Bool
/-- What holds of it. -/
structure AkOK (w : World) (a : Ak) : Prop where
  hx : -9223372036854775808 ≤ a.x ∧ a.x ≤ 9223372036854775807
  hy : -9223372036854775808 ≤ a.y ∧ a.y ≤ 9223372036854775807
  hv : Seen w a.v a.l
  hc : CapOK a.v
  hn : NilOK a.v
  hlt : ∀ j : Nat, a.l[j]?.getD 0 < 18446744073709551616
  ht : -9223372036854775808 ≤ a.t ∧ a.t ≤ 9223372036854775807
theorem AkOK.kept {w w' : World} {a : Ak} (h : AkOK w a) (f : Fr (fun _ => False) w w') : AkOK w' a := ⟨h.hx, h.hy, h.hv.kept f, h.hc, h.hn, h.hlt, h.ht⟩
/-- A row of them. -/
structure AsksAt (w : World) (ao : Option Addr) (n : Nat) (A : Nat → Ak) : Prop where
  len : n ≤ 9223372036854775807
  cells : 0 < n → ∃ b off, ao = some ⟨b, off, none⟩ ∧ ∀ j, j < n → w.cell? ⟨b, off + j * 5 + 0, none⟩ = some (.int .i64 (A j).x) ∧ w.cell? ⟨b, off + j * 5 + 1, none⟩ = some (.int .i64 (A j).y) ∧ w.cell? ⟨b, off + j * 5 + 2, none⟩ = some (A j).v ∧ w.cell? ⟨b, off + j * 5 + 3, none⟩ = some (.int .i64 (A j).t) ∧ w.cell? ⟨b, off + j * 5 + 4, none⟩ = some (.bool (A j).sk)
  ok : ∀ j, j < n → AkOK w (A j)
theorem AsksAt.kept {w w' : World} {ao : Option Addr} {n : Nat} {A : Nat → Ak} (h : AsksAt w ao n A) (f : Fr (fun _ => False) w w') : AsksAt w' ao n A := by
  refine ⟨h.len, fun hn => ?_, fun j hj => (h.ok j hj).kept f⟩
  obtain ⟨b, off, e, hc⟩ := h.cells hn
  refine ⟨b, off, e, fun j hj => ?_⟩
  obtain ⟨a0, a1, a2, a3, a4⟩ := hc j hj
  have hb := seen_lt a0
  refine ⟨?_, ?_, ?_, ?_, ?_⟩ <;> rw [f.cellEq hb (fun h => h)] <;> assumption

end Go.Proofs.Ytkggdnkmaldmlaa
