/- The document's own 'White', 'Put', 'Count'. -/
import Derived.Test.YtflhbmapikdmhaaDoorBlits
import Derived.Test.YtflhbmapikdmhaaDoorRefGet
import Derived.Test.YtflhbmapikdmhaaDoorCnt
import Derived.Test.YtflhbmapikdmhaaDoorPaint
namespace Go.Proofs.YtflhbmapikdmhaaDoor
open Go.RowKit

theorem zget_any (W H : Nat) (v : Value) (P : Nat → Nat → Bool) (x y : Int) (w : World) (hv : Seen w v (render W H P)) (h1 : 1 ≤ W) (h2 : 1 ≤ H) (h3 : W * H ≤ 1048576) :
    Calls Tryd.prog 21 #[.agg #[.int .i64 W, .int .i64 H, v], .int .i64 x, .int .i64 y] w fun e w' => e = .returned (.int .i64 ((getPix W H P x y).toNat : Nat)) ∧ Fr (fun _ => False) w w' := by
  by_cases h : 0 ≤ x ∧ x < W ∧ 0 ≤ y ∧ y < H
  · obtain ⟨a, rfl⟩ : ∃ a : Nat, x = a := ⟨x.toNat, by omega⟩
    obtain ⟨b, rfl⟩ : ∃ b : Nat, y = b := ⟨y.toNat, by omega⟩
    rw [getPix_in (by omega) (by omega)]
    exact zget_in W H v P a b w hv h1 h2 h3 (by omega) (by omega)
  · rw [getPix_out h]
    exact zget_out W H v x y w (by obtain ⟨ao, c, e, _⟩ := hv; exact ⟨ao, _, c, e⟩) h

theorem crop_pix (W H w h : Nat) (P : Nat → Nat → Bool) (x y : Int) : ∀ a b, a < w → b < h → blitPix (opB 4) (fun _ _ => false) P W H x y w h 0 0 a b = cropPix W H P x y a b := by
  intro a b ha hb
  unfold blitPix cropPix
  by_cases hc : 0 ≤ x + (a : Int) ∧ x + (a : Int) < W ∧ 0 ≤ y + (b : Int) ∧ y + (b : Int) < H
  · rw [if_pos ⟨⟨by omega, by omega, by omega, by omega⟩, by omega, by omega, by omega, by omega⟩]
    unfold getPix
    rw [decide_eq_true hc, Int.sub_zero, Int.sub_zero]
    rfl
  · rw [if_neg (by rintro ⟨⟨_, _, _, _⟩, _, _, _, _⟩; omega), getPix_out hc]

theorem crop_pix_or (W H w h : Nat) (P : Nat → Nat → Bool) (x y : Int) : ∀ a b, a < w → b < h → blitPix (opB 0) (fun _ _ => false) P W H x y w h 0 0 a b = cropPix W H P x y a b := by
  intro a b ha hb
  unfold blitPix cropPix
  by_cases hc : 0 ≤ x + (a : Int) ∧ x + (a : Int) < W ∧ 0 ≤ y + (b : Int) ∧ y + (b : Int) < H
  · rw [if_pos ⟨⟨by omega, by omega, by omega, by omega⟩, by omega, by omega, by omega, by omega⟩]
    unfold getPix
    rw [decide_eq_true hc, Int.sub_zero, Int.sub_zero]
    rfl
  · rw [if_neg (by rintro ⟨⟨_, _, _, _⟩, _, _, _, _⟩; omega), getPix_out hc]

set_option maxRecDepth 100000 in
set_option maxHeartbeats 1000000 in
theorem crop_any (bs gs caps W H : Nat) (P : Nat → Nat → Bool) (x y : Int) (ww hh : Nat) (w : World) (h : MapAt w bs gs caps W H P) (h1 : 1 ≤ ww) (h2 : 1 ≤ hh) (h3 : ww * hh ≤ 1048576)
    (hx : -9223372036854775808 ≤ x ∧ x ≤ 9223372036854775807) (hy : -9223372036854775808 ≤ y ∧ y ≤ 9223372036854775807) :
    Calls Tryd.prog 51 #[.pointer (some ⟨bs, 0, none⟩), .int .i64 x, .int .i64 y, .int .i64 ww, .int .i64 hh] w fun e w' => ∃ b g, e = .returned (.tuple #[.pointer (some ⟨b, 0, none⟩), .int .i64 0]) ∧ NewMap w w' b g (hh * stride ww) ww hh (cropPix W H P x y) := by
  obtain ⟨f1, f2, f3⟩ := size_facts h1 h2 h3
  have HA : Hid (MapAt w bs gs caps W H P) := h
  have HBD : Hid ((-9223372036854775808 ≤ x ∧ x ≤ 9223372036854775807) ∧ (-9223372036854775808 ≤ y ∧ y ≤ 9223372036854775807) ∧ ww ≤ 1048576 ∧ hh ≤ 1048576) := ⟨hx, hy, f1, f2⟩
  have HNW : Hid (∀ w', Calls Tryd.prog 59 #[.int .i64 ww, .int .i64 hh] w' fun e w'' => ∃ b g, e = .returned (.tuple #[.pointer (some ⟨b, 0, none⟩), .int .i64 0]) ∧ NewMap w' w'' b g (hh * stride ww) ww hh (fun _ _ => false)) := fun w' => new_yes ww hh w' h1 h2 h3
  clear h h1 h2 h3 f1 f2 f3 hx hy
  go_enter Tryd.func51, Tryd.ntmps51
  go_wp2_with fail
  refine (HNW.out _).mono ?_
  rintro e w1 ⟨b, g, rfl, hn⟩
  have HN : Hid (NewMap w w1 b g (hh * stride ww) ww hh (fun _ _ => false)) := hn
  have HBL : Hid (Calls Tryd.prog 10 #[.pointer (some ⟨b, 0, none⟩), .pointer (some ⟨bs, 0, none⟩), .int .i64 x, .int .i64 y, .int .i64 ww, .int .i64 hh, .int .i64 0, .int .i64 0, .int .i64 4] w1 fun e w' => e = .returned (.int .i64 0) ∧ MapAt w' b g (hh * stride ww) ww hh (blitPix (opB 4) (fun _ _ => false) P W H x y ww hh 0 0) ∧ Fr (fun k => k = g) w1 w') := by
    have q1 := HA.out.lt
    have q2 := HA.out.glt
    have q3 := hn.nb
    have q4 := hn.ng
    obtain ⟨c1, c2, c3, c4⟩ := HBD.out
    exact blit_other 4 b g (hh * stride ww) ww hh bs gs caps W H (fun _ _ => false) P x y ww hh 0 0 w1 hn.at_ (HA.out.kept hn.fr (fun x => x) (fun x => x)) (by omega) (by omega) (by omega) (by omega) c1 c2 (by omega) (by omega) (by omega) (by omega)
  clear hn HA HNW
  go_wp2_with fail
  refine HBL.out.mono ?_
  rintro e w2 ⟨rfl, hm, hf⟩
  have HR : Hid (NewMap w w2 b g (hh * stride ww) ww hh (cropPix W H P x y)) := ⟨hm.pix (crop_pix W H ww hh P x y), HN.out.fr.trans hf (fun i hi e => by have := HN.out.ng; omega), HN.out.nb, HN.out.ng⟩
  clear hm hf
  go_wp2_with fail
  go_ret2
  exact ⟨b, g, rfl, HR.out⟩

end Go.Proofs.YtflhbmapikdmhaaDoor

namespace Go.Proofs.YtflhbmapikdmhaaDoor
open Go.RowKit

/-- A plain bitmap's words: block g. -/
def RowAt (w : World) (g cap W H : Nat) (P : Nat → Nat → Bool) : Prop := w.ownsRow 0 77 1 (.slice (some ⟨g, 0, none⟩) (H * stride W) cap) (H * stride W) (wordCells (render W H P))
theorem RowAt.kept {S : Nat → Prop} {w w' : World} {g cap W H : Nat} {P : Nat → Nat → Bool} (h : RowAt w g cap W H P) (f : Fr S w w') (h1 : ¬ S g) : RowAt w' g cap W H P :=
  row_kept h f (fun k hk => by simp [Value.ownBlock] at hk; subst hk; exact h1)
theorem RowAt.seen {w : World} {g cap W H : Nat} {P : Nat → Nat → Bool} (h : RowAt w g cap W H P) (hl : H * stride W ≤ 1048576) : Seen w (.slice (some ⟨g, 0, none⟩) (H * stride W) cap) (render W H P) := by
  have := Seen.of_row (base := 0) (w := w) (v := .slice (some ⟨g, 0, none⟩) (H * stride W) cap) (l := render W H P) (by rw [length_render]; exact h) (by rw [length_render]; omega)
  exact this
theorem RowAt.lt {w : World} {g cap W H : Nat} {P : Nat → Nat → Bool} (h : RowAt w g cap W H P) : g < w.heap.size := (World.ownsRow.lt h g rfl).2
def putPix (P : Nat → Nat → Bool) (x y : Nat) (c : Bool) : Nat → Nat → Bool := fun a e => if a = x ∧ e = y then c else P a e

theorem RowAt.put {w : World} {g cap W H : Nat} {P Q : Nat → Nat → Bool} (h : RowAt w g cap W H P) {y j x : Nat} (hy : y < H) (hj : j < stride W) (hx : x < 18446744073709551616)
    (hw : ∀ k, k < 64 → x.testBit (63 - k) = (decide (64 * j + k < W) && Q (64 * j + k) y)) (ho : ∀ a b, a < W → b < H → ¬ (b = y ∧ a / 64 = j) → Q a b = P a b) :
    RowAt (w.setCell ⟨g, y * stride W + j, none⟩ (.int .u64 (x : Int))) g cap W H Q := by
  have := (World.ownsRow.stored h (y * stride W + j) (.int .u64 (x : Int))).1
  rw [wordCells_set, render_set hy hj hx hw ho] at this
  exact this

theorem one_shl (k : Nat) (hk : k < 64) : (2 ^ k % 18446744073709551616) = 2 ^ k := Nat.mod_eq_of_lt (Nat.pow_lt_pow_right (by omega) (show k < 64 from hk))

set_option maxRecDepth 100000 in
set_option maxHeartbeats 1000000 in
theorem zput_any (W H g cap : Nat) (P : Nat → Nat → Bool) (x y : Nat) (c : Bool) (w : World) (hv : RowAt w g cap W H P) (h1 : 1 ≤ W) (h2 : 1 ≤ H) (h3 : W * H ≤ 1048576) (hx : x < W) (hy : y < H) :
    Calls Tryd.prog 35 #[.agg #[.int .i64 W, .int .i64 H, .slice (some ⟨g, 0, none⟩) (H * stride W) cap], .int .i64 x, .int .i64 y, .int .i64 (c.toNat : Nat)] w fun e w' => e = .returned (.tuple #[]) ∧ RowAt w' g cap W H (putPix P x y c) ∧ Fr (fun k => k = g) w w' := by
  obtain ⟨f1, f2, f3⟩ := size_facts h1 h2 h3
  have hj : x / 64 < stride W := by unfold stride; omega
  have hat := at_lt hy hj
  have hgl := hv.lt
  have HWD : Hid (∀ w' : World, Calls Tryd.prog 57 #[.int .i64 W] w' fun e w'' => e = .returned (.int .i64 (stride W : Nat)) ∧ w'' = w') := fun w' => words_any W w' f1
  have hm1 : (y : Int) * (stride W : Int) = ((y * stride W : Nat) : Int) := by push_cast; rfl
  have hlt := wd_lt W P y (x / 64)
  have HV1 : Hid (RowAt (w.alloc (.cells #[.int .i64 W, .int .i64 H, .slice (some ⟨g, 0, none⟩) (H * stride W) cap] 39)) g cap W H P) := hv.kept ((Fr.refl (fun _ => False) _).alloc _) (fun hh => hh)
  have hcw : (w.alloc (.cells #[.int .i64 W, .int .i64 H, .slice (some ⟨g, 0, none⟩) (H * stride W) cap] 39)).cell? ⟨g, y * stride W + x / 64, none⟩ = some (.int .u64 (wd W P y (x / 64) : Nat)) := by
    rw [World.ownsRow.cellAt HV1.out _ (by omega), wordCells_get, render_get P hy hj]; rfl
  have hfz := World.ownsRow.frozenAt HV1.out (y * stride W + x / 64)
  have HPT : Hid (∀ (w2 : World) (v : Nat), RowAt w2 g cap W H P → v < 18446744073709551616 → (∀ k, k < 64 → v.testBit (63 - k) = (if k = x % 64 then c else (wd W P y (x / 64)).testBit (63 - k))) → RowAt (w2.setCell ⟨g, y * stride W + x / 64, none⟩ (.int .u64 (v : Int))) g cap W H (putPix P x y c)) := fun w2 v a b e => by
    refine a.put hy hj b ?_ ?_
    · intro k hk
      rw [e k hk]
      unfold putPix
      by_cases hkx : k = x % 64
      · rw [if_pos hkx, if_pos ⟨by omega, rfl⟩, decide_eq_true (by omega), Bool.true_and]
      · rw [if_neg hkx, if_neg (by omega)]
        unfold wd
        rw [bit_wordOf _ _ hk]
    · intro a' b' _ _ hn
      unfold putPix
      rw [if_neg]
      rintro ⟨rfl, rfl⟩
      exact hn ⟨rfl, rfl⟩
  have hpow : 2 ^ (63 - x % 64) < 18446744073709551616 := Nat.pow_lt_pow_right (by omega) (show 63 - x % 64 < 64 by omega)
  have HPB : Hid (∀ k, k < 64 → (2 ^ (63 - x % 64)).testBit (63 - k) = decide (k = x % 64)) := fun k hk => by
    rw [Nat.testBit_two_pow]
    rw [decide_eq_decide]
    omega
  clear hv h1 h2 h3
  generalize wd W P y (x / 64) = D at *
  generalize hN : H * stride W = N at *
  generalize hY : y * stride W = Y at *
  clear hN hY
  have g1 : IntKind.i64.wrap (Y : Int) = (Y : Int) := by rw [IntKind.wrap_i64]; omega
  obtain ⟨A, hA⟩ : ∃ A, A = Y + x / 64 := ⟨_, rfl⟩
  rw [← hA] at hcw hfz HPT hat
  have g2 : (Y : Int) + (x : Int) / 64 = (A : Int) := by omega
  obtain ⟨m, hm⟩ : ∃ m, m = 2 ^ (63 - x % 64) := ⟨_, rfl⟩
  rw [← hm] at hpow HPB
  have HMM : Hid (m = 2 ^ (63 - x % 64)) := hm
  clear hA hm
  obtain ⟨X1, hX1⟩ : ∃ X1, X1 = D &&& 18446744073709551615 - m := ⟨_, rfl⟩
  have k1 : bits .andNot .u64 (D : Int) (m : Int) = (X1 : Int) := by rw [hX1]; exact u64_andNot_nat D m hlt hpow
  have hX1l : X1 < 18446744073709551616 := by rw [hX1]; exact Nat.lt_of_le_of_lt Nat.and_le_left hlt
  have k2 : bits .or .u64 (X1 : Int) (m : Int) = ((X1 ||| m : Nat) : Int) := u64_or_nat X1 m hX1l hpow
  have HX : Hid (∀ i, i < 64 → X1.testBit (63 - i) = (D.testBit (63 - i) && !m.testBit (63 - i))) := fun i hi => by rw [hX1]; exact not_mask D m hpow _ (by omega)
  have HX2 : Hid ((X1 ||| m) < 18446744073709551616) := Nat.or_lt_two_pow (n := 64) hX1l hpow
  have HX1 : Hid (X1 < 18446744073709551616) := hX1l
  clear hX1
  go_enter Tryd.func35, Tryd.ntmps35
  go_wp2_with fail
  refine (HWD.out _).mono ?_
  rintro e w1 ⟨rfl, rfl⟩
  have g3 : (0 : Int) ≤ (A : Int) := by omega
  have g4 : (A : Int) < (N : Int) := by omega
  have hsh : IntKind.u64.wrap (2 ^ (63 - x % 64)) = (m : Int) := by rw [wrapu64, show ((2 : Int) ^ (63 - x % 64)) = ((2 ^ (63 - x % 64) : Nat) : Int) from by push_cast; rfl, ← HMM.out]; exact Int.emod_eq_of_lt (by omega) (by omega)
  have HF1 : Hid (Fr (fun _ => False) w (w.alloc (.cells #[.int .i64 W, .int .i64 H, .slice (some ⟨g, 0, none⟩) N cap] 39))) := (Fr.refl _ _).alloc _
  have hB := heap_alloc_new w (.cells #[.int .i64 W, .int .i64 H, .slice (some ⟨g, 0, none⟩) N cap] 39)
  obtain ⟨c0, c1, c2, cf⟩ := cell_of_three hB
  have hne : w.heap.size ≠ g := by omega
  generalize (w.alloc (.cells #[.int .i64 W, .int .i64 H, .slice (some ⟨g, 0, none⟩) N cap] 39)) = w1 at *
  clear hB
  cases c
  · go_wp2_with fail
    go_region
    go_wp2_with fail
    go_end0
    refine ⟨rfl, (HPT.out w1 X1 HV1.out HX1.out ?_).kept ((Fr.refl (fun _ => False) _).drew) (fun hh => hh), ((HF1.out.mono (T := fun k => k = g) (fun _ _ hh => hh.elim)).setCell (fun _ => rfl) _).drew⟩
    intro k hk
    rw [HX.out k hk, HPB.out k hk]
    by_cases hkx : k = x % 64 <;> simp [hkx]
  · go_wp2_with fail
    go_region
    go_wp2_with fail
    go_region
    go_wp2_with fail
    go_end0
    rw [setCell_twice]
    refine ⟨rfl, (HPT.out w1 (X1 ||| m) HV1.out HX2.out ?_).kept (((Fr.refl (fun _ => False) _).drew).drew) (fun hh => hh), (((HF1.out.mono (T := fun k => k = g) (fun _ _ hh => hh.elim)).setCell (fun _ => rfl) _).drew).drew⟩
    intro k hk
    rw [Nat.testBit_or, HX.out k hk, HPB.out k hk]
    by_cases hkx : k = x % 64 <;> simp [hkx]

set_option maxRecDepth 100000 in
set_option maxHeartbeats 1000000 in
theorem zcount_any (W H : Nat) (v : Value) (P : Nat → Nat → Bool) (w : World) (hv : Seen w v (render W H P)) (h1 : 1 ≤ W) (h2 : 1 ≤ H) (h3 : W * H ≤ 1048576) :
    Calls Tryd.prog 23 #[.agg #[.int .i64 W, .int .i64 H, v]] w fun e w' => e = .returned (.int .i64 (cnt W H P : Nat)) ∧ Fr (fun _ => False) w w' := by
  obtain ⟨f1, f2, f3⟩ := size_facts h1 h2 h3
  have HZ : Hid (∀ (i j : Int) (w' : World), Fr (fun _ => False) w w' → Calls Tryd.prog 21 #[.agg #[.int .i64 W, .int .i64 H, v], .int .i64 i, .int .i64 j] w' fun e w'' => e = .returned (.int .i64 ((getPix W H P i j).toNat : Nat)) ∧ Fr (fun _ => False) w' w'') := fun i j w' hf => zget_any W H v P i j w' (hv.kept hf) h1 h2 h3
  obtain ⟨ao, cap, rfl, hll, _⟩ := hv
  have HBX : Hid (∀ w', Fr (fun _ => False) (w.alloc (.cells #[.int .i64 W, .int .i64 H, .slice ao (render W H P).length cap] 39)) w' → w'.cell? ⟨w.heap.size, 0, none⟩ = some (.int .i64 W) ∧ w'.cell? ⟨w.heap.size, 1, none⟩ = some (.int .i64 H) ∧ w'.cell? ⟨w.heap.size, 2, none⟩ = some (.slice ao (render W H P).length cap)) := fun w' hf => by
    have hB : w'.heap[w.heap.size]? = some (.cells #[.int .i64 W, .int .i64 H, .slice ao (render W H P).length cap] 39 (0, 0)) := by
      rw [hf.block _ (by simp) (fun hh => hh)]; exact heap_alloc_new _ _
    obtain ⟨c0, c1, c2, _⟩ := cell_of_three hB
    exact ⟨c0, c1, c2⟩
  generalize (render W H P).length = n at *
  obtain ⟨f, hf⟩ : ∃ f : Nat → Nat → Nat, f = fun y x => (P x y).toNat := ⟨_, rfl⟩
  have HFE : Hid (∀ a b, a < W → b < H → f b a = (getPix W H P (a : Int) (b : Int)).toNat) := fun a b ha hb => by rw [hf, getPix_in ha hb]
  have HFC : Hid (cnt W H P = sumTo (fun y => sumTo (f y) W) H) := by show _ = _; rw [hf]; rfl
  have HFB : Hid (∀ k m, k ≤ H → m ≤ W → k < H ∨ m = 0 → sumTo (fun y => sumTo (f y) W) k + sumTo (f k) m ≤ 1048576) := fun k m hk hm hkm => by
    have e1 : ∀ b, ∀ a, a < W → f b a ≤ 1 := fun b a _ => by rw [hf]; show (P a b).toNat ≤ 1; cases P a b <;> simp
    have e2 : ∀ b, sumTo (f b) W ≤ W := fun b => by have := sumTo_le (n := W) (g := fun _ => 1) (e1 b); rw [sumTo_const] at this; omega
    have e3 := sumTo_le (n := k) (f := fun y => sumTo (f y) W) (g := fun _ => W) (fun b _ => e2 b)
    rw [sumTo_const] at e3
    have e4 := Nat.le_trans (sumTo_mono (f k) hm) (e2 k)
    rw [Nat.mul_comm] at h3
    rcases hkm with h | h
    · have e5 : (k + 1) * W ≤ H * W := Nat.mul_le_mul_right _ h
      rw [Nat.add_mul, Nat.one_mul] at e5
      omega
    · subst h
      have e5 : k * W ≤ H * W := Nat.mul_le_mul_right _ hk
      simp only [sumTo]
      omega
  rw [HFC.out]
  clear hf HFC h3
  go_enter Tryd.func23, Tryd.ntmps23
  go_wp2_with fail
  go_loopw [3, 4, 5] (fun s j _ wr => ∃ k : Nat, k ≤ H ∧ s = .int .i64 (sumTo (fun y => sumTo (f y) W) k : Nat) ∧ j = .int .i64 k ∧ Fr (fun _ => False) (w.alloc (.cells #[.int .i64 W, .int .i64 H, .slice ao n cap] 39)) wr) (fun _ j _ _ => H - (intOf j).toNat)
  case atStart => exact ⟨0, Nat.zero_le _, rfl, rfl, Fr.refl _ _⟩
  case round =>
    obtain ⟨k, hk, rfl, rfl, hfr⟩ := hrel
    have HFr : Hid (Fr (fun _ => False) (w.alloc (.cells #[.int .i64 W, .int .i64 H, .slice ao n cap] 39)) wr) := hfr
    obtain ⟨k0, k1, k2⟩ := HBX.out wr hfr
    clear hfr
    by_cases hlt : k < H
    · go_wp2_with fail
      go_loopw [3, 5] (fun s i wi => ∃ m : Nat, m ≤ W ∧ s = .int .i64 (sumTo (fun y => sumTo (f y) W) k + sumTo (f k) m : Nat) ∧ i = .int .i64 m ∧ Fr (fun _ => False) (w.alloc (.cells #[.int .i64 W, .int .i64 H, .slice ao n cap] 39)) wi) (fun _ i _ => W - (intOf i).toNat)
      case atStart => exact ⟨0, Nat.zero_le _, rfl, rfl, HFr.out⟩
      case round =>
        obtain ⟨m, hm, rfl, rfl, hfi⟩ := hrel
        have HFi : Hid (Fr (fun _ => False) (w.alloc (.cells #[.int .i64 W, .int .i64 H, .slice ao n cap] 39)) wr) := hfi
        clear k0 k1 k2
        obtain ⟨k0, k1, k2⟩ := HBX.out wr hfi
        clear hfi
        by_cases hmt : m < W
        · have hb1 := HFB.out k m hk hm (Or.inl hlt)
          have hb2 := HFB.out k (m + 1) hk hmt (Or.inl hlt)
          have HST : Hid (sumTo (f k) (m + 1) = sumTo (f k) m + (getPix W H P (m : Int) (k : Int)).toNat) := by show _ = _; rw [← HFE.out m k hmt hlt]; rfl
          rw [HST.out] at hb2
          go_wp2_with fail
          refine (HZ.out _ _ _ (((Fr.refl _ _).alloc _).trans HFi.out (fun _ _ hh => hh))).mono ?_
          rintro e w15 ⟨rfl, hf15⟩
          have HF15 : Hid (Fr (fun _ => False) (w.alloc (.cells #[.int .i64 W, .int .i64 H, .slice ao n cap] 39)) w15) := HFi.out.trans hf15 (fun _ _ hh => hh)
          clear hf15
          go_wp2_with fail
          go_roundw
          case rel => exact ⟨m + 1, by omega, congrArg (Value.int .i64) (by rw [HST.out]; omega), congrArg (Value.int .i64) (by omega), HF15.out⟩
          case measure => simp [intOf]; omega
        · have hmn : m = W := by omega
          subst hmn
          go_wp2_with fail
          go_roundw
          case rel => exact ⟨k + 1, by omega, rfl, congrArg (Value.int .i64) (by omega), HFi.out⟩
          case measure => simp [intOf]; omega
    · have hkn : k = H := by omega
      subst hkn
      go_wp2_with fail
      go_ret
      exact ⟨rfl, ((Fr.refl _ _).alloc _).trans HFr.out (fun _ _ hh => hh)⟩

set_option maxRecDepth 100000 in
set_option maxHeartbeats 1000000 in
theorem zwhite_any (W H : Nat) (w : World) (h1 : 1 ≤ W) (h2 : 1 ≤ H) (h3 : W * H ≤ 1048576) :
    Calls Tryd.prog 48 #[.int .i64 W, .int .i64 H] w fun e w' => ∃ g, e = .returned (.agg #[.int .i64 W, .int .i64 H, .slice (some ⟨g, 0, none⟩) (H * stride W) (H * stride W)]) ∧ RowAt w' g (H * stride W) W H (fun _ _ => false) ∧ Fr (fun _ => False) w w' ∧ w.heap.size ≤ g := by
  obtain ⟨i0, hi, hz0, hz1, hz2⟩ := info_parts Tryd.info88
  obtain ⟨f1, f2, f3⟩ := size_facts h1 h2 h3
  have HR : Hid (wordCells (render W H (fun _ _ => false)) = List.replicate (H * stride W) (.int .u64 0)) := by show _ = _; rw [render_white, wordCells_replicate]
  unfold RowAt
  rw [HR.out]
  clear h3 HR
  go_enter Tryd.func48, Tryd.ntmps48
  go_wp2_with fail
  refine (words_any W _ f1).mono ?_
  rintro e w1 ⟨rfl, hw1⟩
  have hm1 : (H : Int) * (stride W : Int) = ((H * stride W : Nat) : Int) := by push_cast; rfl
  obtain ⟨N, hN⟩ : ∃ N, N = H * stride W := ⟨_, rfl⟩
  rw [← hN] at hm1 f3
  have HSN : Hid (N = H * stride W) := hN
  clear hN
  have HF1 : Hid (Fr (fun _ => False) w w1) := by rw [hw1]; exact (Fr.refl _ _).alloc _
  have HB1 : Hid (w1.heap[w.heap.size]? = some (.cells #[.int .i64 0, .int .i64 0, .slice none 0 0] 39 (0, 0))) := by show _ = _; rw [hw1]; exact heap_alloc_new _ _
  clear hw1
  go_wp2_with (first | (at_make; refine wpList_make_full _ rfl _ _ 37 rfl w1.heap.size 77 i0 (.int .u64 0) 1 Tryd.underlying37 hi hz0 hz1 .i64 .i64 _ _ N rfl rfl ?_ ?_ ?_ ?_ ?_ ?_))
  · omega
  · omega
  · rw [hz2]; omega
  · unfold maxLen; omega
  · omega
  · intro w2 hown hgrow
    have HO : Hid (w2.ownsRow w1.heap.size 77 1 (.slice (some ⟨w1.heap.size, 0, none⟩) N N) N (List.replicate N (.int .u64 0))) := by rw [← toList_madeCells_one]; exact hown
    have hf2 : Fr (fun _ => False) w1 w2 := (Fr.refl _ _).grown hgrow (fun _ e _ => by cases e)
    have hs1 : w.heap.size < w1.heap.size := lt_of_block HB1.out
    have hbk : w2.heap[w.heap.size]? = some (.cells #[.int .i64 0, .int .i64 0, .slice none 0 0] 39 (0, 0)) := by rw [hf2.block _ hs1 (fun hh => hh)]; exact HB1.out
    have HF2 : Hid (Fr (fun _ => False) w w2) := HF1.out.trans hf2 (fun _ _ hh => hh)
    obtain ⟨z0, z1, z2, zf⟩ := cell_of_three hbk
    have hfz : Fr (fun k => k = w.heap.size) w2 (((w2.setCell ⟨w.heap.size, 0, none⟩ (.int .i64 W)).setCell ⟨w.heap.size, 1, none⟩ (.int .i64 H)).setCell ⟨w.heap.size, 2, none⟩ (.slice (some ⟨w1.heap.size, 0, none⟩) N N)) := (((Fr.refl (fun k => k = w.heap.size) w2).setCell (p := ⟨w.heap.size, 0, none⟩) (fun _ => rfl) _).setCell (p := ⟨w.heap.size, 1, none⟩) (fun _ => rfl) _).setCell (p := ⟨w.heap.size, 2, none⟩) (fun _ => rfl) _
    have HO3 : Hid ((((w2.setCell ⟨w.heap.size, 0, none⟩ (.int .i64 W)).setCell ⟨w.heap.size, 1, none⟩ (.int .i64 H)).setCell ⟨w.heap.size, 2, none⟩ (.slice (some ⟨w1.heap.size, 0, none⟩) N N)).ownsRow 0 77 1 (.slice (some ⟨w1.heap.size, 0, none⟩) N N) N (List.replicate N (.int .u64 0))) := row_kept (ownsRow_base HO.out (fun _ _ => Nat.zero_le _)) hfz (fun k hk => by simp [Value.ownBlock] at hk; omega)
    have HF3 : Hid (Fr (fun _ => False) w (((w2.setCell ⟨w.heap.size, 0, none⟩ (.int .i64 W)).setCell ⟨w.heap.size, 1, none⟩ (.int .i64 H)).setCell ⟨w.heap.size, 2, none⟩ (.slice (some ⟨w1.heap.size, 0, none⟩) N N))) := HF2.out.trans hfz (fun i hi hh => by omega)
    have hb5 : (((w2.setCell ⟨w.heap.size, 0, none⟩ (.int .i64 W)).setCell ⟨w.heap.size, 1, none⟩ (.int .i64 H)).setCell ⟨w.heap.size, 2, none⟩ (.slice (some ⟨w1.heap.size, 0, none⟩) N N)).heap[w.heap.size]? = some (.cells #[.int .i64 W, .int .i64 H, .slice (some ⟨w1.heap.size, 0, none⟩) N N] 39 (0, 0)) := by
      simp [World.setCell, Array.getElem?_modify, hbk]
    clear hfz hgrow hown hf2 hbk HO HF2
    go_wp2_with fail
    generalize (((w2.setCell ⟨w.heap.size, 0, none⟩ (.int .i64 W)).setCell ⟨w.heap.size, 1, none⟩ (.int .i64 H)).setCell ⟨w.heap.size, 2, none⟩ (.slice (some ⟨w1.heap.size, 0, none⟩) N N)) = w5 at HO3 HF3 hb5 ⊢
    obtain ⟨y0, y1, y2, yf⟩ := cell_of_three hb5
    clear hb5 yf z0 z1 z2 zf
    go_wp2_with fail
    (try simp only [Exit.inBlock, Exit.then])
    refine bodyPost_ret (by simp [results, Tryd.results48, go_sem, y0, y1, y2]; rfl) rfl ?_
    rw [← HSN.out]
    exact ⟨w1.heap.size, rfl, HO3.out, HF3.out, by omega⟩

end Go.Proofs.YtflhbmapikdmhaaDoor
