/- The document's own answer: May, At. -/
import Derived.Test.YtmfpoabhmpljgaaK23
import Derived.Test.YtmfpoabhmpljgaaK3
namespace Go.Proofs.Ytmfpoabhmpljgaa
open Go.RowKit

set_option maxRecDepth 100000 in
set_option maxHeartbeats 1000000 in
theorem rmay_any (dx dy : Int) (w : World) : Calls Try.prog 26 #[.int .i64 dx, .int .i64 dy] w fun e w' => e = .returned (.bool (mayS dx dy)) ∧ w' = w := by
  by_cases h1 : -1048576 ≤ dx
  · by_cases h2 : dx ≤ 1048576
    · by_cases h3 : -1048576 ≤ dy
      · have hm : mayS dx dy = decide (dy ≤ 1048576) := by unfold mayS; simp [h1, h2, h3]
        rw [hm]
        go_enter Try.func26, Try.ntmps26
        go_wp2_with fail
        go_ret
        exact ⟨rfl, rfl⟩
      · have hm : mayS dx dy = false := by unfold mayS; simp [h3]
        rw [hm]
        go_enter Try.func26, Try.ntmps26
        go_wp2_with fail
        go_ret
        exact ⟨rfl, rfl⟩
    · have hm : mayS dx dy = false := by unfold mayS; simp [h2]
      rw [hm]
      go_enter Try.func26, Try.ntmps26
      go_wp2_with fail
      go_ret
      exact ⟨rfl, rfl⟩
  · have hm : mayS dx dy = false := by unfold mayS; simp [h1]
    rw [hm]
    go_enter Try.func26, Try.ntmps26
    go_wp2_with fail
    go_ret
    exact ⟨rfl, rfl⟩

/-- The number behind k places of the reference. -/
def gN (n0 : Nat) (p : Nat → Nat → Nat) : Nat → Nat
  | 0 => n0
  | k + 1 => 2 * gN n0 p k + p (k % 3) (k / 3)
theorem gN_le (n0 : Nat) (p : Nat → Nat → Nat) (h0 : n0 < 16) (hp : ∀ i j, p i j ≤ 1) : ∀ k, gN n0 p k < 16 * 2 ^ k
  | 0 => by simpa [gN] using h0
  | k + 1 => by
    have h1 := gN_le n0 p h0 hp k
    have h2 := hp (k % 3) (k / 3)
    rw [gN, Nat.pow_succ]
    omega
theorem gN_nine (n0 : Nat) (p : Nat → Nat → Nat) : gN n0 p 9 = n0 * 512 + (4 * p 0 0 + 2 * p 1 0 + p 2 0) * 64 + (4 * p 0 1 + 2 * p 1 1 + p 2 1) * 8 + (4 * p 0 2 + 2 * p 1 2 + p 2 2) := by
  simp only [gN, Nat.reduceMod, Nat.reduceDiv]
  omega

set_option maxRecDepth 100000 in
set_option maxHeartbeats 4000000 in
theorem rat8_any (W H : Nat) (v : Value) (P : Pxs) (V U : Nat) (vr : Value) (R : Pxs) (dx dy : Int) (x y : Nat) (w : World) (hb : Bm w v W H P) (hr : Bm w vr V U R) (hx : x < W) (hy : y < H) (hdx : -1048576 ≤ dx ∧ dx ≤ 1048576) (hdy : -1048576 ≤ dy ∧ dy ≤ 1048576) :
    Calls Try.prog 57 #[.agg #[.int .i64 W, .int .i64 H, v], .agg #[.int .i64 V, .int .i64 U, vr], .int .i64 dx, .int .i64 dy, .int .i64 x, .int .i64 y] w fun e w' => e = .returned (.int .i64 (cxR W (refP V U R dx dy) P x y : Nat)) ∧ Fr (fun _ => False) w w' := by
  obtain ⟨f1, f2, f3⟩ := size_facts hb.h1 hb.h2 hb.h3
  have HGb : Hid (∀ (w' : World) (a b : Int), Fr (fun _ => False) w w' → b < H → Calls Try.prog 43 #[.agg #[.int .i64 W, .int .i64 H, v], .int .i64 a, .int .i64 b] w' fun e w'' => e = .returned (.int .i64 (pixJ W P a b : Nat)) ∧ Fr (fun _ => False) w' w'') := fun w' a b f h => by
    have := zget_any W H v P a b w' (hb.kept f).seen hb.h1 hb.h2 hb.h3
    rwa [pixI_get, pixJ_pixI W H P a b h] at this
  have HGr : Hid (∀ (w' : World) (a b : Int), Fr (fun _ => False) w w' → Calls Try.prog 43 #[.agg #[.int .i64 V, .int .i64 U, vr], .int .i64 a, .int .i64 b] w' fun e w'' => e = .returned (.int .i64 (pixI V U R a b : Nat)) ∧ Fr (fun _ => False) w' w'') := fun w' a b f => by
    have := zget_any V U vr R a b w' (hr.kept f).seen hr.h1 hr.h2 hr.h3
    rwa [pixI_get] at this
  have G1 : Hid (∀ w', Fr (fun _ => False) w w' → _) := fun w' f => HGb.out w' ((x : Int) - 1) ((y : Int) - 1) f (by omega)
  have G2 : Hid (∀ w', Fr (fun _ => False) w w' → _) := fun w' f => HGb.out w' (x : Int) ((y : Int) - 1) f (by omega)
  have G3 : Hid (∀ w', Fr (fun _ => False) w w' → _) := fun w' f => HGb.out w' ((x : Int) + 1) ((y : Int) - 1) f (by omega)
  have G4 : Hid (∀ w', Fr (fun _ => False) w w' → _) := fun w' f => HGb.out w' ((x : Int) - 1) (y : Int) f (by omega)
  have l1 := pixJ_le W P ((x : Int) - 1) ((y : Int) - 1)
  have l2 := pixJ_le W P (x : Int) ((y : Int) - 1)
  have l3 := pixJ_le W P ((x : Int) + 1) ((y : Int) - 1)
  have l4 := pixJ_le W P ((x : Int) - 1) (y : Int)
  obtain ⟨n0, HN0⟩ : ∃ n0, Hid (n0 = 2 * triN (fun a => pixJ W P a ((y : Int) - 1)) x + pixJ W P ((x : Int) - 1) y) := ⟨_, rfl⟩
  have HNe : Hid (n0 = 2 * (2 * (2 * pixJ W P ((x : Int) - 1) ((y : Int) - 1) + pixJ W P (x : Int) ((y : Int) - 1)) + pixJ W P ((x : Int) + 1) ((y : Int) - 1)) + pixJ W P ((x : Int) - 1) (y : Int)) := by
    show _ = _
    rw [HN0.out]; simp only [triN]; omega
  obtain ⟨p, HP⟩ : ∃ p : Nat → Nat → Nat, Hid (p = fun (i j : Nat) => pixI V U R ((x : Int) - dx + ((i : Int) - 1)) ((y : Int) - dy + ((j : Int) - 1))) := ⟨_, rfl⟩
  have HPl : Hid (∀ i j, p i j ≤ 1) := fun i j => by rw [HP.out]; exact pixI_le _ _ _ _ _
  have HGp : Hid (∀ (w' : World) (i j : Nat) (a b : Int), a = (x : Int) - dx + ((i : Int) - 1) → b = (y : Int) - dy + ((j : Int) - 1) → Fr (fun _ => False) w w' → Calls Try.prog 43 #[.agg #[.int .i64 V, .int .i64 U, vr], .int .i64 a, .int .i64 b] w' fun e w'' => e = .returned (.int .i64 (p i j : Nat)) ∧ Fr (fun _ => False) w' w'') := fun w' i j a b e1 e2 f => by
    rw [HP.out, e1, e2]; exact HGr.out w' _ _ f
  have HEnd : Hid (gN n0 p 9 = cxR W (refP V U R dx dy) P x y) := by
    show _ = _
    rw [gN_nine, HN0.out, HP.out]
    unfold cxR refP
    simp only [triN]
    have c : ∀ (a b a' b' : Int), a = a' → b = b' → pixI V U R a b = pixI V U R a' b' := fun a b a' b' e1 e2 => by rw [e1, e2]
    have h00 : pixI V U R ((x : Int) - dx + (((0 : Nat) : Int) - 1)) ((y : Int) - dy + (((0 : Nat) : Int) - 1)) = pixI V U R ((x : Int) - 1 - dx) ((y : Int) - 1 - dy) := c _ _ _ _ (by omega) (by omega)
    have h10 : pixI V U R ((x : Int) - dx + (((1 : Nat) : Int) - 1)) ((y : Int) - dy + (((0 : Nat) : Int) - 1)) = pixI V U R ((x : Int) - dx) ((y : Int) - 1 - dy) := c _ _ _ _ (by omega) (by omega)
    have h20 : pixI V U R ((x : Int) - dx + (((2 : Nat) : Int) - 1)) ((y : Int) - dy + (((0 : Nat) : Int) - 1)) = pixI V U R ((x : Int) + 1 - dx) ((y : Int) - 1 - dy) := c _ _ _ _ (by omega) (by omega)
    have h01 : pixI V U R ((x : Int) - dx + (((0 : Nat) : Int) - 1)) ((y : Int) - dy + (((1 : Nat) : Int) - 1)) = pixI V U R ((x : Int) - 1 - dx) ((y : Int) - dy) := c _ _ _ _ (by omega) (by omega)
    have h11 : pixI V U R ((x : Int) - dx + (((1 : Nat) : Int) - 1)) ((y : Int) - dy + (((1 : Nat) : Int) - 1)) = pixI V U R ((x : Int) - dx) ((y : Int) - dy) := c _ _ _ _ (by omega) (by omega)
    have h21 : pixI V U R ((x : Int) - dx + (((2 : Nat) : Int) - 1)) ((y : Int) - dy + (((1 : Nat) : Int) - 1)) = pixI V U R ((x : Int) + 1 - dx) ((y : Int) - dy) := c _ _ _ _ (by omega) (by omega)
    have h02 : pixI V U R ((x : Int) - dx + (((0 : Nat) : Int) - 1)) ((y : Int) - dy + (((2 : Nat) : Int) - 1)) = pixI V U R ((x : Int) - 1 - dx) ((y : Int) + 1 - dy) := c _ _ _ _ (by omega) (by omega)
    have h12 : pixI V U R ((x : Int) - dx + (((1 : Nat) : Int) - 1)) ((y : Int) - dy + (((2 : Nat) : Int) - 1)) = pixI V U R ((x : Int) - dx) ((y : Int) + 1 - dy) := c _ _ _ _ (by omega) (by omega)
    have h22 : pixI V U R ((x : Int) - dx + (((2 : Nat) : Int) - 1)) ((y : Int) - dy + (((2 : Nat) : Int) - 1)) = pixI V U R ((x : Int) + 1 - dx) ((y : Int) + 1 - dy) := c _ _ _ _ (by omega) (by omega)
    rw [h00, h10, h20, h01, h11, h21, h02, h12, h22]
  obtain ⟨ao, cv, hv, -, -⟩ := hb.seen
  obtain ⟨ar, cr, hvr, -, -⟩ := hr.seen
  generalize (render W H P).length = m0 at *
  generalize (render V U R).length = m1 at *
  subst hv
  subst hvr
  rw [← HEnd.out]
  have g1 : IntKind.i64.wrap ((x : Int) - 1) = (x : Int) - 1 := by rw [IntKind.wrap_i64]; omega
  have g2 : IntKind.i64.wrap ((y : Int) - 1) = (y : Int) - 1 := by rw [IntKind.wrap_i64]; omega
  have g3 : IntKind.i64.wrap ((x : Int) + 1) = (x : Int) + 1 := by rw [IntKind.wrap_i64]; omega
  generalize pixJ W P ((x : Int) - 1) ((y : Int) - 1) = a1 at *
  generalize pixJ W P (x : Int) ((y : Int) - 1) = a2 at *
  generalize pixJ W P ((x : Int) + 1) ((y : Int) - 1) = a3 at *
  generalize pixJ W P ((x : Int) - 1) (y : Int) = a4 at *
  obtain ⟨b2, hb2⟩ : ∃ b2, b2 = 2 * a1 + a2 := ⟨_, rfl⟩
  obtain ⟨b3, hb3⟩ : ∃ b3, b3 = 2 * b2 + a3 := ⟨_, rfl⟩
  have k2 : IntKind.i64.wrap (2 * (a1 : Int) + (a2 : Int)) = (b2 : Int) := by rw [IntKind.wrap_i64]; omega
  have k3 : IntKind.i64.wrap (2 * (b2 : Int) + (a3 : Int)) = (b3 : Int) := by rw [IntKind.wrap_i64]; omega
  have k4 : IntKind.i64.wrap (2 * (b3 : Int) + (a4 : Int)) = (n0 : Int) := by rw [IntKind.wrap_i64]; have := HNe.out; omega
  have m1' : IntKind.i64.wrap (2 * (a1 : Int)) = 2 * (a1 : Int) := by rw [IntKind.wrap_i64]; omega
  have m2' : IntKind.i64.wrap (2 * (b2 : Int)) = 2 * (b2 : Int) := by rw [IntKind.wrap_i64]; omega
  have m3' : IntKind.i64.wrap (2 * (b3 : Int)) = 2 * (b3 : Int) := by rw [IntKind.wrap_i64]; omega
  have HNl : Hid (n0 < 16) := by show _ < _; have := HNe.out; omega
  have HXY : Hid (x ≤ 1048576 ∧ y ≤ 1048576 ∧ (-1048576 ≤ dx ∧ dx ≤ 1048576) ∧ (-1048576 ≤ dy ∧ dy ≤ 1048576)) := ⟨by omega, by omega, hdx, hdy⟩
  clear hb hr hx hy hdx hdy hb2 hb3 l1 l2 l3 l4 f1 f2 f3 HGb HGr HNe HN0 HEnd HP
  have HA : Hid (Fr (fun _ => False) w ((w.alloc (.cells #[.int .i64 W, .int .i64 H, .slice ao m0 cv] 26)).alloc (.cells #[.int .i64 V, .int .i64 U, .slice ar m1 cr] 26))) := ((Fr.refl _ _).alloc _).alloc _
  have HBX : Hid (∀ w', Fr (fun _ => False) ((w.alloc (.cells #[.int .i64 W, .int .i64 H, .slice ao m0 cv] 26)).alloc (.cells #[.int .i64 V, .int .i64 U, .slice ar m1 cr] 26)) w' → w'.heap[w.heap.size]? = some (.cells #[.int .i64 W, .int .i64 H, .slice ao m0 cv] 26 (0, 0)) ∧ w'.heap[w.heap.size + 1]? = some (.cells #[.int .i64 V, .int .i64 U, .slice ar m1 cr] 26 (0, 0))) := fun w' f => by
    have q2 := heap_alloc_new (w.alloc (.cells #[.int .i64 W, .int .i64 H, .slice ao m0 cv] 26)) (.cells #[.int .i64 V, .int .i64 U, .slice ar m1 cr] 26)
    have q1 := heap_alloc_new w (.cells #[.int .i64 W, .int .i64 H, .slice ao m0 cv] 26)
    simp only [World.size_alloc] at q1 q2
    exact ⟨blkOld f (blkUp q1 _), blkOld f q2⟩
  go_enter Try.func57, Try.ntmps57
  go_wp2_with fail
  generalize ((w.alloc (.cells #[.int .i64 W, .int .i64 H, .slice ao m0 cv] 26)).alloc (.cells #[.int .i64 V, .int .i64 U, .slice ar m1 cr] 26)) = w0 at *
  refine (G1.out _ HA.out).mono ?_
  rintro e w1 ⟨rfl, hf1⟩
  have HF1 : Hid (Fr (fun _ => False) w0 w1) := hf1
  obtain ⟨c0, c1, c2, cf⟩ := cell_of_three (HBX.out _ hf1).1
  clear hf1
  go_wp2_with fail
  refine (G2.out _ (HA.out.trans HF1.out (fun _ _ h => h))).mono ?_
  rintro e w2 ⟨rfl, hf2⟩
  have HF2 : Hid (Fr (fun _ => False) w0 w2) := (HF1.out).trans hf2 (fun _ _ h => h)
  clear c0 c1 c2 cf hf2
  obtain ⟨c0, c1, c2, cf⟩ := cell_of_three (HBX.out _ HF2.out).1
  go_wp2_with fail
  refine (G3.out _ (HA.out.trans HF2.out (fun _ _ h => h))).mono ?_
  rintro e w3 ⟨rfl, hf3⟩
  have HF3 : Hid (Fr (fun _ => False) w0 w3) := (HF2.out).trans hf3 (fun _ _ h => h)
  clear c0 c1 c2 cf hf3
  obtain ⟨c0, c1, c2, cf⟩ := cell_of_three (HBX.out _ HF3.out).1
  go_wp2_with fail
  refine (G4.out _ (HA.out.trans HF3.out (fun _ _ h => h))).mono ?_
  rintro e w4 ⟨rfl, hf4⟩
  have HF4 : Hid (Fr (fun _ => False) w0 w4) := (HF3.out).trans hf4 (fun _ _ h => h)
  clear c0 c1 c2 cf hf4
  obtain ⟨c0, c1, c2, cf⟩ := cell_of_three (HBX.out _ HF4.out).2
  go_wp2_with fail
  clear c0 c1 c2 cf
  go_loopw [13, 14, 15] (fun nn jj _ wr => ∃ J : Nat, J ≤ 3 ∧ jj = .int .i64 ((J : Int) - 1) ∧ nn = .int .i64 (gN n0 p (3 * J) : Nat) ∧ Fr (fun _ => False) w0 wr) (fun _ jj _ _ => (2 - intOf jj).toNat)
  case atStart => exact ⟨0, by omega, rfl, rfl, HF4.out⟩
  case round =>
    obtain ⟨J, hJ, rfl, rfl, hfr⟩ := hrel
    have HFr : Hid (Fr (fun _ => False) w0 wr) := hfr
    clear hfr
    by_cases hJ3 : J < 3
    · have hdj : decide ((J : Int) - 1 ≤ 1) = true := decide_eq_true (by omega)
      have gj : IntKind.i64.wrap ((J : Int) - 1 + 1) = (((J + 1 : Nat) : Int) - 1) := by rw [IntKind.wrap_i64]; omega
      go_wp2_with fail
      go_loopw [13, 15] (fun nn ii wr => ∃ I : Nat, I ≤ 3 ∧ ii = .int .i64 ((I : Int) - 1) ∧ nn = .int .i64 (gN n0 p (3 * J + I) : Nat) ∧ Fr (fun _ => False) w0 wr) (fun _ ii _ => (2 - intOf ii).toNat)
      case atStart => exact ⟨0, by omega, rfl, rfl, HFr.out⟩
      case round =>
        obtain ⟨I, hI, rfl, rfl, hfi⟩ := hrel
        have HFi : Hid (Fr (fun _ => False) w0 wr) := hfi
        clear hfi
        by_cases hI3 : I < 3
        · have hdi : decide ((I : Int) - 1 ≤ 1) = true := decide_eq_true (by omega)
          have gi : IntKind.i64.wrap ((I : Int) - 1 + 1) = (((I + 1 : Nat) : Int) - 1) := by rw [IntKind.wrap_i64]; omega
          have hxy := HXY.out
          have r1 : IntKind.i64.wrap ((x : Int) - dx) = (x : Int) - dx := by rw [IntKind.wrap_i64]; omega
          have r2 : IntKind.i64.wrap ((y : Int) - dy) = (y : Int) - dy := by rw [IntKind.wrap_i64]; omega
          have r3 : IntKind.i64.wrap ((x : Int) - dx + ((I : Int) - 1)) = (x : Int) - dx + ((I : Int) - 1) := by rw [IntKind.wrap_i64]; omega
          have r4 : IntKind.i64.wrap ((y : Int) - dy + ((J : Int) - 1)) = (y : Int) - dy + ((J : Int) - 1) := by rw [IntKind.wrap_i64]; omega
          have hgl := gN_le n0 p HNl.out HPl.out (3 * J + I)
          have hpw : 2 ^ (3 * J + I) ≤ 2 ^ 9 := Nat.pow_le_pow_right (by omega) (by omega)
          have hpl := HPl.out I J
          have HNx : Hid (gN n0 p (3 * J + (I + 1)) = 2 * gN n0 p (3 * J + I) + p I J) := by
            show _ = _
            rw [← Nat.add_assoc, gN, show (3 * J + I) % 3 = I by omega, show (3 * J + I) / 3 = J by omega]
          have HG : Hid (∀ w', Fr (fun _ => False) wr w' → Calls Try.prog 43 #[.agg #[.int .i64 V, .int .i64 U, .slice ar m1 cr], .int .i64 ((x : Int) - dx + ((I : Int) - 1)), .int .i64 ((y : Int) - dy + ((J : Int) - 1))] w' fun e w'' => e = .returned (.int .i64 (p I J : Nat)) ∧ Fr (fun _ => False) w' w'') := fun w' f => HGp.out w' I J _ _ rfl rfl ((HA.out.trans HFi.out (fun _ _ h => h)).trans f (fun _ _ h => h))
          obtain ⟨G2, HG2⟩ : ∃ G2, Hid (G2 = gN n0 p (3 * J + (I + 1))) := ⟨_, rfl⟩
          have r6 : IntKind.i64.wrap (2 * (gN n0 p (3 * J + I) : Int) + (p I J : Int)) = (G2 : Int) := by rw [HG2.out, HNx.out, IntKind.wrap_i64]; omega
          have r5 : IntKind.i64.wrap (2 * (gN n0 p (3 * J + I) : Int)) = 2 * (gN n0 p (3 * J + I) : Int) := by rw [IntKind.wrap_i64]; omega
          obtain ⟨c0, c1, c2, cf⟩ := cell_of_three (HBX.out _ HFi.out).2
          clear hgl hpw hpl hxy HNx
          generalize gN n0 p (3 * J + I) = GA at *
          generalize p I J = pij at *
          go_wp2_with fail
          refine (HG.out _ (Fr.refl _ _)).mono ?_
          rintro e w8 ⟨rfl, hf8⟩
          have HF8 : Hid (Fr (fun _ => False) w0 w8) := HFi.out.trans hf8 (fun _ _ h => h)
          clear hf8 c0 c1 c2 cf
          go_wp2_with fail
          exact ⟨⟨I + 1, by omega, congrArg (Value.int .i64) (by omega), by rw [HG2.out], HF8.out⟩, by simp only [intOf]; omega⟩
        · obtain rfl : I = 3 := by omega
          go_wp2_with fail
          exact ⟨⟨J + 1, by omega, congrArg (Value.int .i64) (by omega), by rw [Nat.mul_add], HFi.out⟩, by simp only [intOf]; omega⟩
    · obtain rfl : J = 3 := by omega
      go_wp2_with fail
      go_ret
      exact ⟨rfl, HA.out.trans HFr.out (fun _ _ h => h)⟩

end Go.Proofs.Ytmfpoabhmpljgaa
