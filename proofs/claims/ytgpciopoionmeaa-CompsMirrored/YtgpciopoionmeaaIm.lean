/- The document's own 'Invert' and 'Mirror'. -/
import Derived.Test.YtgpciopoionmeaaIv
import Derived.Test.YtgpciopoionmeaaFi
namespace Go.Proofs.Ytgpciopoionmeaa
open Go.RowKit

/-- Pixels that are turned, up to a place. -/
def invK (P : Nat → Nat → Bool) (y x : Nat) : Nat → Nat → Bool := fun a e => if e < y ∨ (e = y ∧ a < x) then !P a e else P a e
theorem invK_zero (P : Nat → Nat → Bool) : invK P 0 0 = P := by
  funext a e; unfold invK; rw [if_neg (by omega)]
theorem invK_put (P : Nat → Nat → Bool) (y x : Nat) : putPix (invK P y x) x y (!P x y) = invK P y (x + 1) := by
  funext a e
  unfold putPix invK
  by_cases h1 : a = x ∧ e = y
  · obtain ⟨rfl, rfl⟩ := h1
    rw [if_pos ⟨rfl, rfl⟩, if_pos (by omega)]
  · rw [if_neg h1]
    by_cases h2 : e < y ∨ (e = y ∧ a < x)
    · rw [if_pos h2, if_pos (by omega)]
    · rw [if_neg h2, if_neg (by omega)]
theorem invK_at (P : Nat → Nat → Bool) (y x : Nat) : invK P y x x y = P x y := by unfold invK; rw [if_neg (by omega)]
theorem invK_row (P : Nat → Nat → Bool) (W y : Nat) : ∀ a e, a < W → invK P y W a e = invK P (y + 1) 0 a e := by
  intro a e ha
  unfold invK
  by_cases h : e < y ∨ (e = y ∧ a < W)
  · rw [if_pos h, if_pos (by omega)]
  · rw [if_neg h, if_neg (by omega)]
theorem invK_end (P : Nat → Nat → Bool) (H : Nat) : ∀ a e, e < H → invK P H 0 a e = !P a e := by
  intro a e he
  unfold invK
  rw [if_pos (by omega)]
theorem RowAt.pix {w : World} {g cap W H : Nat} {P Q : Nat → Nat → Bool} (h : RowAt w g cap W H P) (e : ∀ a b, a < W → b < H → P a b = Q a b) : RowAt w g cap W H Q := by
  unfold RowAt at h ⊢
  rwa [← render_congr e]

/-- Pixels that are mirrored, up to a place; else white. -/
def mirK (P : Nat → Nat → Bool) (W y x : Nat) : Nat → Nat → Bool := fun a e => if e < y ∨ (e = y ∧ a < x) then P (W - 1 - a) e else false
theorem mirK_zero (P : Nat → Nat → Bool) (W : Nat) : mirK P W 0 0 = fun _ _ => false := by
  funext a e; unfold mirK; rw [if_neg (by omega)]
theorem mirK_put (P : Nat → Nat → Bool) (W y x : Nat) : putPix (mirK P W y x) x y (P (W - 1 - x) y) = mirK P W y (x + 1) := by
  funext a e
  unfold putPix mirK
  by_cases h1 : a = x ∧ e = y
  · obtain ⟨rfl, rfl⟩ := h1
    rw [if_pos ⟨rfl, rfl⟩, if_pos (by omega)]
  · rw [if_neg h1]
    by_cases h2 : e < y ∨ (e = y ∧ a < x)
    · rw [if_pos h2, if_pos (by omega)]
    · rw [if_neg h2, if_neg (by omega)]
theorem mirK_row (P : Nat → Nat → Bool) (W y : Nat) : ∀ a e, a < W → mirK P W y W a e = mirK P W (y + 1) 0 a e := by
  intro a e ha
  unfold mirK
  by_cases h : e < y ∨ (e = y ∧ a < W)
  · rw [if_pos h, if_pos (by omega)]
  · rw [if_neg h, if_neg (by omega)]
theorem mirK_end (P : Nat → Nat → Bool) (W H : Nat) : ∀ a e, e < H → mirK P W H 0 a e = P (W - 1 - a) e := by
  intro a e he
  unfold mirK
  rw [if_pos (by omega)]

set_option maxRecDepth 100000 in
set_option maxHeartbeats 4000000 in
theorem rmirror_any (W H : Nat) (v : Value) (P : Nat → Nat → Bool) (w : World) (hb : Bm w v W H P) :
    Calls Try.prog 29 #[.agg #[.int .i64 W, .int .i64 H, v]] w fun e w' => ∃ g cap, e = .returned (.agg #[.int .i64 W, .int .i64 H, .slice (some ⟨g, 0, none⟩) (H * stride W) cap]) ∧ RowAt w' g cap W H (fun x y => P (W - 1 - x) y) ∧ Fr (fun _ => False) w w' ∧ w.heap.size ≤ g := by
  obtain ⟨f1, f2, f3⟩ := size_facts hb.h1 hb.h2 hb.h3
  have h1 := hb.h1
  have h2 := hb.h2
  have h3 := hb.h3
  have HZG : Hid (∀ (w' : World) (X Y : Nat), Fr (fun _ => False) w w' → X < W → Y < H → Calls Try.prog 24 #[.agg #[.int .i64 W, .int .i64 H, v], .int .i64 X, .int .i64 Y] w' fun e w'' => e = .returned (.int .i64 ((P X Y).toNat : Nat)) ∧ Fr (fun _ => False) w' w'') := fun w' X Y f hX hY => by
    have := zget_any W H v P X Y w' (hb.seen.kept f) h1 h2 h3
    rwa [getPix_in hX hY] at this
  have HPU : Hid (∀ (g : Nat) (w' : World) (X Y : Nat) (c : Bool) (Q : Nat → Nat → Bool), RowAt w' g (H * stride W) W H Q → X < W → Y < H → Calls Try.prog 53 #[.agg #[.int .i64 W, .int .i64 H, .slice (some ⟨g, 0, none⟩) (H * stride W) (H * stride W)], .int .i64 X, .int .i64 Y, .int .i64 (c.toNat : Nat)] w' fun e w'' => e = .returned (.tuple #[]) ∧ RowAt w'' g (H * stride W) W H (putPix Q X Y c) ∧ Fr (fun k => k = g) w' w'') := fun g w' X Y c Q hq hX hY => zput_any W H g _ Q X Y c w' hq h1 h2 h3 hX hY
  have HWH : Hid (∀ w', Calls Try.prog 30 #[.int .i64 W, .int .i64 H] w' fun e w'' => ∃ g, e = .returned (.agg #[.int .i64 W, .int .i64 H, .slice (some ⟨g, 0, none⟩) (H * stride W) (H * stride W)]) ∧ RowAt w'' g (H * stride W) W H (fun _ _ => false) ∧ Fr (fun _ => False) w' w'' ∧ w'.heap.size ≤ g) := fun w' => zwhite_any W H w' h1 h2 h3
  obtain ⟨ao, cap0, rfl, -, -⟩ := hb.seen
  generalize (render W H P).length = n at *
  generalize H * stride W = N at *
  have HA : Hid (Fr (fun _ => False) w ((w.alloc (.cells #[.int .i64 W, .int .i64 H, .slice ao n cap0] 25)).alloc (.cells #[.int .i64 0, .int .i64 0, .slice none 0 0] 25))) := ((Fr.refl _ _).alloc _).alloc _
  have HBX : Hid (∀ w', Fr (fun _ => False) ((w.alloc (.cells #[.int .i64 W, .int .i64 H, .slice ao n cap0] 25)).alloc (.cells #[.int .i64 0, .int .i64 0, .slice none 0 0] 25)) w' → w'.heap[w.heap.size]? = some (.cells #[.int .i64 W, .int .i64 H, .slice ao n cap0] 25 (0, 0)) ∧ w'.heap[w.heap.size + 1]? = some (.cells #[.int .i64 0, .int .i64 0, .slice none 0 0] 25 (0, 0))) := fun w' hf =>
    ⟨blkOld hf (blkUp (heap_alloc_new _ _) _), blkOld hf (by have := heap_alloc_new (w.alloc (.cells #[.int .i64 W, .int .i64 H, .slice ao n cap0] 25)) (.cells #[.int .i64 0, .int .i64 0, .slice none 0 0] 25); rwa [World.size_alloc] at this)⟩
  have HS0 : Hid (((w.alloc (.cells #[.int .i64 W, .int .i64 H, .slice ao n cap0] 25)).alloc (.cells #[.int .i64 0, .int .i64 0, .slice none 0 0] 25)).heap.size = w.heap.size + 2) := by show _ = _; simp
  clear hb
  go_enter Try.func29, Try.ntmps29
  go_upto_region 1 with (fail)
  generalize (w.alloc (.cells #[.int .i64 W, .int .i64 H, .slice ao n cap0] 25)).alloc (.cells #[.int .i64 0, .int .i64 0, .slice none 0 0] 25) = w0 at *
  obtain ⟨kb, _⟩ := HBX.out _ (Fr.refl _ _)
  obtain ⟨c0, c1, c2, _⟩ := cell_of_three kb
  clear kb
  go_wp2_with fail
  refine (HWH.out _).mono ?_
  rintro e w1 ⟨g, rfl, hr1, hf1, hg1⟩
  have HR2 : Hid (RowAt (w1.alloc (.cells #[.int .i64 W, .int .i64 H, .slice (some ⟨g, 0, none⟩) N N] 25)) g N W H (mirK P W 0 0)) := by rw [mirK_zero]; exact hr1.kept ((Fr.refl (fun _ => False) _).alloc _) (fun h => h)
  have HF2 : Hid (Fr (fun _ => False) w0 (w1.alloc (.cells #[.int .i64 W, .int .i64 H, .slice (some ⟨g, 0, none⟩) N N] 25))) := hf1.alloc _
  have HG : Hid (w0.heap.size ≤ g ∧ g < w1.heap.size) := ⟨hg1, hr1.lt⟩
  have HBO : Hid (∀ w', Fr (fun k => k = g) (w1.alloc (.cells #[.int .i64 W, .int .i64 H, .slice (some ⟨g, 0, none⟩) N N] 25)) w' → w'.cell? ⟨w1.heap.size, 0, none⟩ = some (.int .i64 W) ∧ w'.cell? ⟨w1.heap.size, 1, none⟩ = some (.int .i64 H) ∧ w'.cell? ⟨w1.heap.size, 2, none⟩ = some (.slice (some ⟨g, 0, none⟩) N N)) := fun w' hf => by
    obtain ⟨q0, q1, q2, _⟩ := cell_of_three ((hf.block w1.heap.size (by simp) (by have := HG.out; omega)).trans (heap_alloc_new w1 _))
    exact ⟨q0, q1, q2⟩
  clear hr1 hf1 hg1 c0 c1 c2 HWH
  go_wp2_with fail
  generalize w1.alloc (.cells #[.int .i64 W, .int .i64 H, .slice (some ⟨g, 0, none⟩) N N] 25) = w2 at *
  have HFW : Hid (∀ w', Fr (fun k => k = g) w2 w' → Fr (fun _ => False) w0 w') := fun w' f => HF2.out.trans f (fun i hi e => by have := HG.out; omega)
  have HS : Hid (∀ w', Fr (fun k => k = g) w2 w' → (w'.cell? ⟨w.heap.size, 0, none⟩ = some (.int .i64 W) ∧ w'.cell? ⟨w.heap.size, 1, none⟩ = some (.int .i64 H) ∧ w'.cell? ⟨w.heap.size, 2, none⟩ = some (.slice ao n cap0)) ∧ w'.cell? ⟨w1.heap.size, 0, none⟩ = some (.int .i64 W) ∧ w'.cell? ⟨w1.heap.size, 1, none⟩ = some (.int .i64 H) ∧ w'.cell? ⟨w1.heap.size, 2, none⟩ = some (.slice (some ⟨g, 0, none⟩) N N)) := fun w' f => by
    obtain ⟨c0, c1, c2, _⟩ := cell_of_three (HBX.out _ (HFW.out _ f)).1
    exact ⟨⟨c0, c1, c2⟩, HBO.out _ f⟩
  go_loopg [4, 5] H (fun q yv _ wr => ∃ Y : Nat, Y + q = H ∧ yv = .int .i64 Y ∧ RowAt wr g N W H (mirK P W Y 0) ∧ Fr (fun k => k = g) w2 wr)
  case atStart => exact ⟨0, by omega, rfl, HR2.out, Fr.refl _ _⟩
  case round =>
    clear HR2
    obtain ⟨Y, hYq, rfl, hrow, hfr⟩ := hrel
    have HRw : Hid (RowAt wr g N W H (mirK P W Y 0)) := hrow
    have HFr : Hid (Fr (fun k => k = g) w2 wr) := hfr
    obtain ⟨⟨c0, c1, c2⟩, e0, e1, e2⟩ := HS.out _ hfr
    clear hrow hfr
    by_cases hYH : Y < H
    · have hdY : decide (Y < H) = true := decide_eq_true hYH
      go_wp2_with fail
      clear c0 c1 c2 e0 e1 e2
      go_loopg [5] W (fun q xv wr => ∃ X : Nat, X + q = W ∧ xv = .int .i64 X ∧ RowAt wr g N W H (mirK P W Y X) ∧ Fr (fun k => k = g) w2 wr)
      case atStart => exact ⟨0, by omega, rfl, HRw.out, HFr.out⟩
      case round =>
        clear HRw HFr
        obtain ⟨X, hXq, rfl, hrow, hfr⟩ := hrel
        have HRX : Hid (RowAt wr g N W H (mirK P W Y X)) := hrow
        have HFX : Hid (Fr (fun k => k = g) w2 wr) := hfr
        obtain ⟨⟨c0, c1, c2⟩, e0, e1, e2⟩ := HS.out _ hfr
        clear hrow hfr
        by_cases hXW : X < W
        · have hdX : decide (X < W) = true := decide_eq_true hXW
          have HS2 : Hid (∀ w', Fr (fun k => k = g) wr w' → (w'.cell? ⟨w.heap.size, 0, none⟩ = some (.int .i64 W) ∧ w'.cell? ⟨w.heap.size, 1, none⟩ = some (.int .i64 H) ∧ w'.cell? ⟨w.heap.size, 2, none⟩ = some (.slice ao n cap0)) ∧ w'.cell? ⟨w1.heap.size, 0, none⟩ = some (.int .i64 W) ∧ w'.cell? ⟨w1.heap.size, 1, none⟩ = some (.int .i64 H) ∧ w'.cell? ⟨w1.heap.size, 2, none⟩ = some (.slice (some ⟨g, 0, none⟩) N N)) := fun w' f => HS.out _ (HFX.out.trans f (fun _ _ h => h))
          obtain ⟨Z, hZ⟩ : ∃ Z, Z = W - 1 - X := ⟨_, rfl⟩
          have HG1 : Hid (∀ w', Fr (fun _ => False) wr w' → Calls Try.prog 24 #[.agg #[.int .i64 W, .int .i64 H, .slice ao n cap0], .int .i64 Z, .int .i64 Y] w' fun e w'' => e = .returned (.int .i64 ((P Z Y).toNat : Nat)) ∧ Fr (fun _ => False) w' w'') := fun w' f => HZG.out w' Z Y ((HA.out.trans (HFW.out _ HFX.out) (fun _ _ h => h)).trans f (fun _ _ h => h)) (by omega) hYH
          have HP1 : Hid (∀ w', Fr (fun _ => False) wr w' → Calls Try.prog 53 #[.agg #[.int .i64 W, .int .i64 H, .slice (some ⟨g, 0, none⟩) N N], .int .i64 X, .int .i64 Y, .int .i64 ((P Z Y).toNat : Nat)] w' fun e w'' => e = .returned (.tuple #[]) ∧ RowAt w'' g N W H (mirK P W Y (X + 1)) ∧ Fr (fun k => k = g) w' w'') := fun w' f => by
            have := HPU.out g w' X Y (P Z Y) (mirK P W Y X) (HRX.out.kept f (fun h => h)) hXW hYH
            rw [hZ, mirK_put, ← hZ] at this
            exact this
          have hs1 : IntKind.i64.wrap ((W : Int) - 1) = (W : Int) - 1 := by rw [IntKind.wrap_i64]; omega
          have hs2 : IntKind.i64.wrap ((W : Int) - 1 - (X : Int)) = (Z : Int) := by rw [IntKind.wrap_i64]; omega
          clear hZ
          generalize (P Z Y).toNat = p at *
          go_wp2_with fail
          go_region_held3 (fun w' => (w'.cell? ⟨w.heap.size, 0, none⟩ = some (.int .i64 W) ∧ w'.cell? ⟨w.heap.size, 1, none⟩ = some (.int .i64 H) ∧ w'.cell? ⟨w.heap.size, 2, none⟩ = some (.slice ao n cap0)) ∧ w'.cell? ⟨w1.heap.size, 0, none⟩ = some (.int .i64 W) ∧ w'.cell? ⟨w1.heap.size, 1, none⟩ = some (.int .i64 H) ∧ w'.cell? ⟨w1.heap.size, 2, none⟩ = some (.slice (some ⟨g, 0, none⟩) N N)) (exact HS2.out _ (by repeat (first | with_reducible exact Fr.refl _ _ | with_reducible refine Fr.drew ?_ | with_reducible refine Fr.trans ?_ hf6 (fun _ _ h => h) | with_reducible refine Fr.trans ?_ hf5 (fun _ _ h => h.elim)))) (first | (go_at_call 53; refine (HP1.out _ (by repeat (first | with_reducible exact Fr.refl _ _ | with_reducible refine Fr.drew ?_ | with_reducible refine Fr.trans ?_ hf5 (fun _ _ h => h)))).mono ?_; rintro e w6 ⟨rfl, hr6, hf6⟩) | (go_at_call 24; refine (HG1.out _ (by repeat (first | with_reducible exact Fr.refl _ _ | with_reducible refine Fr.drew ?_))).mono ?_; rintro e w5 ⟨rfl, hf5⟩))
          have HR6 : Hid (RowAt w6 g N W H (mirK P W Y (X + 1))) := hr6
          have HF6 : Hid (Fr (fun k => k = g) w2 w6) := ((HFX.out.drew).trans hf5 (fun _ _ h => h.elim)).trans hf6 (fun _ _ h => h)
          clear hr6 hf6 hf5 c0 c1 c2 e0 e1 e2
          go_wp2_with fail
          go_roundg (W - (X + 1))
          case measure => omega
          case rel => exact ⟨X + 1, by omega, congrArg (Value.int .i64) (by omega), HR6.out, HF6.out⟩
        · have hdX : decide (X < W) = false := decide_eq_false hXW
          have hXe : X = W := by omega
          have HRE : Hid (RowAt wr g N W H (mirK P W (Y + 1) 0)) := by
            have := HRX.out
            rw [hXe] at this
            exact this.pix (fun a e ha _ => mirK_row P W Y a e ha)
          clear hXe
          go_wp2_with fail
          go_roundg (H - (Y + 1))
          case measure => omega
          case rel => exact ⟨Y + 1, by omega, congrArg (Value.int .i64) (by omega), HRE.out, HFX.out⟩
    · have hdY : decide (Y < H) = false := decide_eq_false hYH
      have hYe : Y = H := by omega
      have HRE : Hid (RowAt wr g N W H (fun x y => P (W - 1 - x) y)) := by
        have := HRw.out
        rw [hYe] at this
        exact this.pix (fun a e _ he => mirK_end P W H a e he)
      clear hYe
      have hbk := (HBX.out _ (HFW.out _ HFr.out)).2
      obtain ⟨z0, z1, z2, zf⟩ := cell_of_three hbk
      have y0 := zf 0
      have y1 := zf 1
      have y2 := zf 2
      have hb5 := set3_cells hbk (.int .i64 (W : Int)) (.int .i64 (H : Int)) (.slice (some ⟨g, 0, none⟩) N N)
      have HF5 : Hid (Fr (fun _ => False) w (((wr.setCell ⟨w.heap.size + 1, 0, none⟩ (.int .i64 (W : Int))).setCell ⟨w.heap.size + 1, 1, none⟩ (.int .i64 (H : Int))).setCell ⟨w.heap.size + 1, 2, none⟩ (.slice (some ⟨g, 0, none⟩) N N))) := Fr.set3 (HA.out.trans (HFW.out _ HFr.out) (fun _ _ h => h)) (Nat.le_succ _) _ _ _
      have HX5 : Hid (Fr (fun k => k = w.heap.size + 1) wr (((wr.setCell ⟨w.heap.size + 1, 0, none⟩ (.int .i64 (W : Int))).setCell ⟨w.heap.size + 1, 1, none⟩ (.int .i64 (H : Int))).setCell ⟨w.heap.size + 1, 2, none⟩ (.slice (some ⟨g, 0, none⟩) N N))) := (((Fr.refl (fun k => k = w.heap.size + 1) _).setCell (p := ⟨w.heap.size + 1, 0, none⟩) (fun _ => rfl) _).setCell (p := ⟨w.heap.size + 1, 1, none⟩) (fun _ => rfl) _).setCell (p := ⟨w.heap.size + 1, 2, none⟩) (fun _ => rfl) _
      clear zf hbk
      go_wp2_with fail
      generalize (((wr.setCell ⟨w.heap.size + 1, 0, none⟩ (.int .i64 (W : Int))).setCell ⟨w.heap.size + 1, 1, none⟩ (.int .i64 (H : Int))).setCell ⟨w.heap.size + 1, 2, none⟩ (.slice (some ⟨g, 0, none⟩) N N)) = w5 at hb5 HF5 HX5 ⊢
      obtain ⟨m0, m1, m2, _⟩ := cell_of_three hb5
      refine bodyPost_ret (v := .agg #[.int .i64 (W : Int), .int .i64 (H : Int), .slice (some ⟨g, 0, none⟩) N N]) (by simp [results, Try.results29, go_sem, m0, m1, m2]) rfl ?_
      have hg := HG.out
      have hs := HS0.out
      exact ⟨g, N, rfl, HRE.out.kept HX5.out (by omega), HF5.out, by omega⟩

end Go.Proofs.Ytgpciopoionmeaa
