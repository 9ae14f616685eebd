/- Bitmaps of the reference whose words' number is a name; what PageStripes reckons. -/
import Derived.Test.YtejempbgpkeheaaSc
namespace Go.Proofs.Ytejempbgpkeheaa
open Go.RowKit

/-- The words of a bitmap of the call's own: N of them. -/
def RB (w : World) (g N W H : Nat) (P : Nat → Nat → Bool) : Prop := N = H * stride W ∧ RowAt w g N W H P
theorem RB.kept {S : Nat → Prop} {w w' : World} {g N W H : Nat} {P : Nat → Nat → Bool} (h : RB w g N W H P) (f : Fr S w w') (h1 : ¬ S g) : RB w' g N W H P := ⟨h.1, h.2.kept f h1⟩
theorem RB.lt {w : World} {g N W H : Nat} {P : Nat → Nat → Bool} (h : RB w g N W H P) : g < w.heap.size := h.2.lt
theorem RB.bm {w : World} {g N W H : Nat} {P : Nat → Nat → Bool} (h : RB w g N W H P) (h1 : 1 ≤ W) (h2 : 1 ≤ H) (h3 : W * H ≤ 1048576) : Bm w (.slice (some ⟨g, 0, none⟩) N N) W H P := by
  obtain ⟨rfl, hr⟩ := h
  exact hr.bm h1 h2 h3
theorem RB.pix {w : World} {g N W H : Nat} {P Q : Nat → Nat → Bool} (h : RB w g N W H P) (e : ∀ x y, x < W → y < H → P x y = Q x y) : RB w g N W H Q := ⟨h.1, h.2.pixO e⟩

theorem white_rb (W H : Nat) (hw : Int) (w : World) (h0 : hw = H) (h1 : 1 ≤ W) (h2 : 1 ≤ H) (h3 : W * H ≤ 1048576) :
    Calls Try.prog 23 #[.int .i64 W, .int .i64 hw] w fun e w' => ∃ g N, e = .returned (.agg #[.int .i64 W, .int .i64 hw, .slice (some ⟨g, 0, none⟩) N N]) ∧ RB w' g N W H (fun _ _ => false) ∧ Fr (fun _ => False) w w' ∧ w.heap.size ≤ g := by
  subst h0
  refine (zwhite_any W H w h1 h2 h3).mono ?_
  rintro e w' ⟨g, he, hr, hf, hg⟩
  exact ⟨g, _, he, ⟨rfl, hr⟩, hf, hg⟩

theorem lay_rb (op : Nat) (hop : op ≤ 4) (V U g N : Nat) (Q : Nat → Nat → Bool) (X Y : Int) (W H : Nat) (v : Value) (P : Nat → Nat → Bool) (w : World) (hr : RB w g N V U Q) (hs : ∀ w', Fr (fun k => k = g) w w' → Bm w' v W H P) (h1 : 1 ≤ V) (h2 : 1 ≤ U) (h3 : V * U ≤ 1048576) (hX : I64 X) (hY : I64 Y) :
    Calls Try.prog 24 #[.agg #[.int .i64 V, .int .i64 U, .slice (some ⟨g, 0, none⟩) N N], .int .i64 X, .int .i64 Y, .int .i64 op, .agg #[.int .i64 W, .int .i64 H, v]] w fun e w' => e = .returned (.tuple #[]) ∧ RB w' g N V U (laidG op X Y W H 0 P Q) ∧ Fr (fun k => k = g) w w' := by
  obtain ⟨rfl, hr⟩ := hr
  refine (lay_all op hop V U g _ Q X Y W H v P w hr hs h1 h2 h3 hX hY).mono ?_
  rintro e w' ⟨he, hr', hf⟩
  exact ⟨he, ⟨rfl, hr'⟩, hf⟩

theorem end_rb {p b g cap W H d s n : Nat} {P : Nat → Nat → Bool} (w : World) (hp : PgAt w p b g cap W H d s n P) (hs : s = 0 ∨ n = H) :
    Calls Try.prog 16 #[.pointer (some ⟨p, 0, none⟩)] w fun e w' => ∃ g2 N cap2, e = .returned (.tuple #[.agg #[.int .i64 W, .int .i64 H, .slice (some ⟨g2, 0, none⟩) N cap2], .int .i64 0]) ∧ (N = H * stride W ∧ RowAt w' g2 cap2 W H P) ∧ PgEnd w' p W H d s ∧ Fr (fun k => k = p) w w' ∧ w.heap.size ≤ g2 := by
  refine (end_ok w hp hs).mono ?_
  rintro e w' ⟨g2, c2, he, hr, h1, h2, h3⟩
  exact ⟨g2, _, c2, he, ⟨rfl, hr⟩, h1, h2, h3⟩

theorem three_new (w : World) (x y z : Value) : (w.alloc (.cells #[x, y, z] 38)).heap[w.heap.size]? = some (.cells #[x, y, z] 38 (0, 0)) := heap_alloc_new _ _
theorem three_cells {S : Nat → Prop} {w w' : World} {o : Nat} {x y z : Value} (h : w.heap[o]? = some (.cells #[x, y, z] 38 (0, 0))) (f : Fr S w w') (hs : ¬ S o) : w'.cell? ⟨o, 0, none⟩ = some x ∧ w'.cell? ⟨o, 1, none⟩ = some y ∧ w'.cell? ⟨o, 2, none⟩ = some z := by
  obtain ⟨c0, c1, c2, _⟩ := cell_of_three ((f.block o (lt_of_block h) hs).trans h)
  exact ⟨c0, c1, c2⟩
theorem three_kept {S : Nat → Prop} {w w' : World} {o : Nat} {x y z : Value} (h : w.heap[o]? = some (.cells #[x, y, z] 38 (0, 0))) (f : Fr S w w') (hs : ¬ S o) : w'.heap[o]? = some (.cells #[x, y, z] 38 (0, 0)) := (f.block o (lt_of_block h) hs).trans h
theorem six_new (w : World) (x y z u v t : Value) : (w.alloc (.cells #[x, y, z, u, v, t] 27)).heap[w.heap.size]? = some (.cells #[x, y, z, u, v, t] 27 (0, 0)) := heap_alloc_new _ _

/-- What the page shows where the rows ahead of n are done. -/
def strP (B : Nat → Nat → Bool) (n : Nat) : Nat → Nat → Bool := fun x y => if y < n then B x y else true

theorem str_lay (B Q : Nat → Nat → Bool) {W H Y h : Nat} (hh : Y + h ≤ H) : ∀ a e, a < W → e < h → laidG 4 0 (-(Y : Int)) W H 0 B Q a e = B a (e + Y) := by
  intro a e ha he
  unfold laidG
  rw [if_pos ⟨by omega, by omega, by omega, Or.inl (by omega)⟩]
  have e1 : ((a : Int) - 0).toNat = a := by omega
  have e2 : ((e : Int) - (-(Y : Int))).toNat = e + Y := by omega
  rw [e1, e2]
  rfl

theorem str_add (B : Nat → Nat → Bool) (W H Y h : Nat) : ∀ x y, x < W → y < H → addPix 4 (strP B Y) (fun x y => B x (y + Y)) W h 0 Y x y = strP B (Y + h) x y := by
  intro x y hx hy
  unfold addPix blitPix strP
  by_cases h1 : y < Y
  · rw [if_neg (by omega), if_pos h1, if_pos (by omega)]
  · by_cases h2 : y < Y + h
    · rw [if_pos (by omega), if_pos h2]
      have e1 : (0 + ((x : Int) - 0)).toNat = x := by omega
      have e2 : (0 + ((y : Int) - (Y : Int))).toNat + Y = y := by omega
      simp only [e1, e2]
      rfl
    · rw [if_neg (by omega), if_neg h1, if_neg h2]

theorem str_end (B : Nat → Nat → Bool) {W H : Nat} : ∀ x y, x < W → y < H → strP B H x y = B x y := by
  intro x y hx hy
  unfold strP
  rw [if_pos hy]

theorem hold_up {Y : Nat} (s : Nat) : holdOK Y s ((Y : Int) - 1) 1 = false := by
  unfold holdOK; exact decide_eq_false (by omega)
theorem hold_far {s : Nat} (Y : Nat) (hs : 1 ≤ s) : holdOK Y s (Y : Int) (s + 1) = false := by
  unfold holdOK; exact decide_eq_false (by push_cast; omega)
theorem st_small {H s : Nat} (hH : H ≤ 60) (hs : s ≤ H) : 1 * (s + 1) ≤ 1048576 := by omega
theorem hold_in {Y h s : Nat} (h1 : h ≤ s) : holdOK Y s (Y : Int) h = true := by
  unfold holdOK; exact decide_eq_true (by omega)
theorem stripe_more {Y h s H : Nat} (hm : min (Y + s) H = Y + h) : stripeOK Y s H ((Y : Int) + (h : Int)) = false := by
  unfold stripeOK lastRow; exact decide_eq_false (by omega)
theorem stripe_just {Y h s H : Nat} (h0 : 1 ≤ s) (h1 : Y < H) (hm : min (Y + s) H = Y + h) : stripeOK Y s H ((Y : Int) + (h : Int) - 1) = true := by
  unfold stripeOK lastRow; exact decide_eq_true (by omega)
theorem stripe_done (s H : Nat) (last : Int) : stripeOK H s H last = false := by
  unfold stripeOK; exact decide_eq_false (by omega)

theorem st_a {H Y s : Nat} (h1 : Y < H) (hc : (H : Int) - (Y : Int) < (s : Int)) : ∃ h : Nat, (H : Int) - (Y : Int) = (h : Int) ∧ decide ((H : Int) - (Y : Int) < (s : Int)) = true ∧ decide ((h : Int) < (s : Int)) = true ∧ decide (h < s) = true ∧ 1 ≤ h ∧ h ≤ s ∧ Y + h ≤ H ∧ min (Y + s) H = Y + h :=
  ⟨H - Y, by omega, decide_eq_true hc, decide_eq_true (by omega), decide_eq_true (by omega), by omega, by omega, by omega, by omega⟩
theorem st_b {H Y s : Nat} (_ : Y < H) (hc : ¬ (H : Int) - (Y : Int) < (s : Int)) : decide ((H : Int) - (Y : Int) < (s : Int)) = false ∧ Y + s ≤ H ∧ min (Y + s) H = Y + s :=
  ⟨decide_eq_false hc, by omega, by omega⟩
theorem st_w {H Y s h : Nat} (hH : H ≤ 60) (h1 : Y < H) (h2 : s ≤ H) (h3 : Y + h ≤ H) : wrap64 ((Y : Int) - 1) = (Y : Int) - 1 ∧ wrap64 ((s : Int) + 1) = (s : Int) + 1 ∧ decide ((s : Int) < 1048576) = true ∧ wrap64 ((Y : Int) + (h : Int)) = (Y : Int) + (h : Int) ∧ wrap64 ((Y : Int) + (h : Int) - 1) = (Y : Int) + (h : Int) - 1 ∧ wrap64 ((Y : Int) + (s : Int)) = (Y : Int) + (s : Int) ∧ IntKind.i64.wrap (-(Y : Int)) = -(Y : Int) :=
  ⟨wr64 (by omega), wr64 (by omega), decide_eq_true (by omega), wr64 (by omega), wr64 (by omega), wr64 (by omega), by rw [IntKind.wrap_i64]; omega⟩
theorem Fr.newer {T : Nat → Prop} {a b c : World} {gw : Nat} (h : Fr T a b) (k : Fr (fun k => k = gw) b c) (hg : a.heap.size ≤ gw) : Fr T a c := h.trans k (fun i hi e => by omega)
theorem Fr.more {T : Nat → Prop} {a b c : World} (h : Fr T a b) (k : Fr (fun _ => False) b c) : Fr T a c := h.trans k (fun _ _ h => h.elim)
theorem Fr.kp {p g : Nat} {a b c : World} (h : Fr (fun k => k = p ∨ k = g) a b) (k : Fr (fun k => k = p) b c) : Fr (fun k => k = p ∨ k = g) a c := h.trans k (fun _ _ e => Or.inl e)
theorem Fr.kg {p g : Nat} {a b c : World} (h : Fr (fun k => k = p ∨ k = g) a b) (k : Fr (fun k => k = g) b c) : Fr (fun k => k = p ∨ k = g) a c := h.trans k (fun _ _ e => Or.inr e)
/-- What a round of stripes knows of its numbers. -/
structure StC (W H Y h s : Nat) : Prop where
  w1 : 1 ≤ W
  h1 : 1 ≤ H
  hH : H ≤ 60
  s1 : 1 ≤ s
  s2 : s ≤ H
  yH : Y < H
  k1 : 1 ≤ h
  k2 : h ≤ s
  k3 : Y + h ≤ H
  kH : h ≤ H
  mi : min (Y + s) H = Y + h
theorem StC.s0 {W H Y h s : Nat} (c : StC W H Y h s) : s ≠ 0 := by have := c.s1; omega
theorem StC.y2 {W H Y h s : Nat} (c : StC W H Y h s) : Y + s ≤ 2 * H := by have := c.s2; have := c.yH; omega
theorem StC.sl {W H Y h s : Nat} (c : StC W H Y h s) : s ≤ 1048576 := by have := c.s2; have := c.hH; omega
theorem StC.Hl {W H Y h s : Nat} (c : StC W H Y h s) : H ≤ 1048576 := by have := c.hH; omega
theorem StC.Yl {W H Y h s : Nat} (c : StC W H Y h s) : Y ≤ 1048576 := by have := c.hH; have := c.yH; omega
theorem StC.me {W H Y h s q : Nat} (c : StC W H Y h s) (e : q = H - Y) : H - (Y + s) < q := by have := c.s1; have := c.yH; omega
theorem nw4 {a3 a4 p g b gw n : Nat} (h1 : p < a4) (h2 : b < a4) (h3 : g < a4) (h4 : a3 ≤ a4) (h5 : a4 ≤ gw) (h6 : gw < n) : (p ≠ gw ∧ g ≠ gw ∧ b ≠ gw ∧ n ≠ gw) ∧ a3 ≤ gw := ⟨⟨by omega, by omega, by omega, by omega⟩, by omega⟩
theorem eq_rb {W H g2 N c2 : Nat} {P B : Nat → Nat → Bool} {u : Value} {w : World} (hN : N = H * stride W) (hr : RowAt w g2 c2 W H P) (hb : Bm w u W H B) (e : ∀ x y, x < W → y < H → P x y = B x y) :
    Calls Try.prog 18 #[.agg #[.int .i64 W, .int .i64 H, .slice (some ⟨g2, 0, none⟩) N c2], .agg #[.int .i64 W, .int .i64 H, u]] w fun e w' => e = .returned (.bool true) ∧ Fr (fun _ => False) w w' := by
  subst hN
  have h := eqBitmap_any W H W H _ u _ _ w ((hr.pixO e).seen (size_facts hb.h1 hb.h2 hb.h3).2.2) hb.seen
  refine h.mono ?_
  rintro e w' ⟨he, hf⟩
  exact ⟨by rw [he, decide_eq_true ⟨rfl, rfl, rfl⟩], hf⟩
theorem i64_neg {H Y : Nat} (hH : H ≤ 60) (h1 : Y < H) : I64 (-(Y : Int)) := ⟨by omega, by omega⟩
theorem i64_nat {H Y : Nat} (hH : H ≤ 60) (h1 : Y < H) : I64 (Y : Int) := ⟨by omega, by omega⟩
theorem i64_zero : I64 0 := ⟨by omega, by omega⟩

end Go.Proofs.Ytejempbgpkeheaa
