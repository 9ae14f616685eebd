/- What PageLaid reckons: a bitmap added whole, and row by row. -/
import Derived.Test.YtejempbgpkeheaaSr
namespace Go.Proofs.Ytejempbgpkeheaa
open Go.RowKit

theorem cell_of_seven {w : World} {b : Nat} {x0 x1 x2 x3 x4 x5 x6 : Value} {t : TypeId} (h : w.heap[b]? = some (.cells #[x0, x1, x2, x3, x4, x5, x6] t (0, 0))) :
    w.cell? ⟨b, 0, none⟩ = some x0 ∧ w.cell? ⟨b, 1, none⟩ = some x1 ∧ w.cell? ⟨b, 2, none⟩ = some x2 ∧ w.cell? ⟨b, 3, none⟩ = some x3 ∧ w.cell? ⟨b, 4, none⟩ = some x4 ∧ w.cell? ⟨b, 5, none⟩ = some x5 ∧ w.cell? ⟨b, 6, none⟩ = some x6 ∧ (∀ j, w.frozen? ⟨b, j, none⟩ = false) := by
  refine ⟨?_, ?_, ?_, ?_, ?_, ?_, ?_, fun j => ?_⟩ <;> simp [World.cell?, World.frozen?, h]
theorem seven_new (w : World) (x0 x1 x2 x3 x4 x5 x6 : Value) : (w.alloc (.cells #[x0, x1, x2, x3, x4, x5, x6] 40)).heap[w.heap.size]? = some (.cells #[x0, x1, x2, x3, x4, x5, x6] 40 (0, 0)) := heap_alloc_new _ _
theorem blk_kept {S : Nat → Prop} {w w' : World} {o : Nat} {B : Obj} (h : w.heap[o]? = some B) (f : Fr S w w') (hs : ¬ S o) : w'.heap[o]? = some B := (f.block o (lt_of_block h) hs).trans h

theorem size_out {x y : Int} (h : sizeOK x y = true) : ∃ W H : Nat, x = W ∧ y = H ∧ 1 ≤ W ∧ 1 ≤ H ∧ W * H ≤ 1048576 := by
  unfold sizeOK at h
  obtain ⟨h1, h2, h3⟩ := of_decide_eq_true h
  obtain ⟨W, rfl⟩ : ∃ W : Nat, x = W := ⟨x.toNat, by omega⟩
  obtain ⟨H, rfl⟩ : ∃ H : Nat, y = H := ⟨y.toNat, by omega⟩
  refine ⟨W, H, rfl, rfl, by omega, by omega, ?_⟩
  rw [← Int.natCast_mul] at h3
  omega
theorem big_mul {W H : Nat} (h1 : 1 ≤ W) (h2 : 1 ≤ H) (h3 : W * H ≤ 1048576) : ∃ ar : Nat, wrap64 (((W : Int) + 64) * (H : Int)) = ar := by
  obtain ⟨f1, f2, _⟩ := size_facts h1 h2 h3
  refine ⟨(W + 64) * H, ?_⟩
  have e : ((W : Int) + 64) * (H : Int) = (((W + 64) * H : Nat) : Int) := by push_cast; rfl
  have e2 : (W + 64) * H = W * H + 64 * H := Nat.add_mul _ _ _
  rw [e]
  exact wr64 (by omega)
theorem mod50 {x : Int} : 0 ≤ x % 50 ∧ x % 50 < 50 := ⟨Int.emod_nonneg _ (by omega), Int.emod_lt_of_pos _ (by omega)⟩

theorem add_none (P B : Nat → Nat → Bool) (Wb : Nat) (X Y : Int) : addPix 0 P B Wb 0 X Y = P := by
  funext a y
  unfold addPix blitPix
  rw [if_neg (by omega)]
theorem add_row (P B : Nat → Nat → Bool) (Wb J : Nat) (X Y : Int) (a y : Nat) : addPix 0 (addPix 0 P B Wb J X Y) (fun x e => B x (e + J)) Wb 1 X (Y + J) a y = addPix 0 P B Wb (J + 1) X Y a y := by
  unfold addPix blitPix
  by_cases hx : 0 ≤ (a : Int) - X ∧ (a : Int) - X < Wb
  · by_cases h1 : 0 ≤ (y : Int) - Y ∧ (y : Int) - Y < J
    · rw [if_neg (by omega), if_pos (by omega), if_pos (by omega)]
    · by_cases h2 : (y : Int) - Y = J
      · rw [if_pos (by omega), if_neg (by omega), if_pos (by omega)]
        have e2 : (0 + ((y : Int) - (Y + J))).toNat + J = (0 + ((y : Int) - Y)).toNat := by omega
        simp only [e2]
      · rw [if_neg (by omega), if_neg (by omega), if_neg (by omega)]
  · rw [if_neg (by omega), if_neg (by omega), if_neg (by omega)]
theorem row_lay (B : Nat → Nat → Bool) {W H J : Nat} (hh : J + 1 ≤ H) : ∀ a e, a < W → e < 1 → laidG 0 0 (-(J : Int)) W H 0 B (fun _ _ => false) a e = B a (e + J) := by
  intro a e ha he
  unfold laidG
  rw [if_pos ⟨by omega, by omega, by omega, Or.inl (by omega)⟩]
  have e1 : ((a : Int) - 0).toNat = a := by omega
  have e2 : ((e : Int) - (-(J : Int))).toNat = e + J := by omega
  rw [e1, e2]
  rfl
theorem hold_free {y : Int} (h : Nat) (h0 : 0 ≤ y) : holdOK 0 0 y h = true := by
  unfold holdOK; exact decide_eq_true ⟨by omega, Or.inl rfl⟩
theorem i64_in {x : Int} (h0 : -1000 ≤ x) (h1 : x ≤ 1000) : I64 x := ⟨by omega, by omega⟩

/-- A page of no stripes, and what may not touch it. -/
theorem PgAt.far {w w' : World} {p b g cap W H d s n gx : Nat} {P : Nat → Nat → Bool} (h : PgAt w p b g cap W H d s n P) (f : Fr (fun k => k = gx) w w') (h1 : p ≠ gx) (h2 : b ≠ gx) (h3 : g ≠ gx) : PgAt w' p b g cap W H d s n P := h.kept f h1 h2 h3
theorem PgAt.same {w w' : World} {p b g cap W H d s n : Nat} {P : Nat → Nat → Bool} (h : PgAt w p b g cap W H d s n P) (f : Fr (fun _ => False) w w') : PgAt w' p b g cap W H d s n P := h.kept f (fun h => h) (fun h => h) (fun h => h)
theorem PgEnd.same {w w' : World} {p W H d s : Nat} (h : PgEnd w p W H d s) (f : Fr (fun _ => False) w w') : PgEnd w' p W H d s := h.kept f (fun h => h)

/-- Two pages made one behind the other, both behind w0. -/
structure SepP (w0 : World) (pa ba ga pb bb gb : Nat) : Prop where
  pp : pa ≠ pb
  a1 : pa ≠ gb
  a2 : ba ≠ gb
  a3 : ga ≠ gb
  b1 : pb ≠ ga
  b2 : bb ≠ ga
  b3 : gb ≠ ga
  c1 : bb ≠ pa
  c2 : gb ≠ pa
  c3 : ga ≠ pb
  n1 : w0.heap.size ≤ pa
  n2 : w0.heap.size ≤ ga
  n3 : w0.heap.size ≤ pb
  n4 : w0.heap.size ≤ gb
theorem SepP.mk' {w0 w1 : World} {pa ba ga ca W H d s n pb bb gb : Nat} {P : Nat → Nat → Bool} (h : PgAt w1 pa ba ga ca W H d s n P) (a : w0.heap.size ≤ pa ∧ w0.heap.size ≤ ba ∧ w0.heap.size ≤ ga) (n1 : w1.heap.size ≤ pb) (n2 : w1.heap.size ≤ bb) (n3 : w1.heap.size ≤ gb) (f : w0.heap.size ≤ w1.heap.size) : SepP w0 pa ba ga pb bb gb := by
  have h1 := h.lt
  have h2 := h.map.lt
  have h3 := h.map.glt
  obtain ⟨a1, _, a3⟩ := a
  exact ⟨by omega, by omega, by omega, by omega, by omega, by omega, by omega, by omega, by omega, by omega, by omega, by omega, by omega, by omega⟩
theorem Fr.new0 {a b c : World} {g : Nat} (h : Fr (fun _ => False) a b) (k : Fr (fun k => k = g) b c) (hg : a.heap.size ≤ g) : Fr (fun _ => False) a c := h.newer k hg

theorem nx6 {j : Nat} (h : j < 6) : j + 1 + (6 - (j + 1)) = 6 := by omega
theorem nx6a {j q : Nat} (h : j + q = 6) (k : j < 6) : 6 - (j + 1) < q := by omega
theorem nx6w {j : Nat} (_ : j < 6) : ((j : Int) + 1) = ((j + 1 : Nat) : Int) := by omega
theorem nxH {J H : Nat} (h : J < H) : J + 1 + (H - (J + 1)) = H := by omega
theorem nxHa {J H q : Nat} (h : J + q = H) (k : J < H) : H - (J + 1) < q := by omega
theorem nxHw {J H : Nat} (_ : H ≤ 60) (_ : J < H) : wrap64 ((J : Int) + 1) = ((J + 1 : Nat) : Int) := by rw [wr64 (by omega)]; omega
theorem nxE {J H q : Nat} (h : J + q = H) (k : ¬ J < H) : J = H := by omega
theorem laid_w {J H : Nat} {Y : Int} (hH : H ≤ 60) (h : J < H) (h0 : 0 ≤ Y) (h1 : Y < 50) : IntKind.i64.wrap (-(J : Int)) = -(J : Int) ∧ wrap64 (Y + (J : Int)) = Y + (J : Int) := ⟨by rw [IntKind.wrap_i64]; omega, wr64 (by omega)⟩
theorem laid_y {J H : Nat} {Y : Int} (hH : H ≤ 60) (h : J < H) (h0 : 0 ≤ Y) (h1 : Y < 50) : I64 (Y + (J : Int)) := ⟨by omega, by omega⟩
theorem small_mul {W H : Nat} (h : W * H ≤ 1048576) : ∃ ar : Nat, wrap64 ((W : Int) * (H : Int)) = ar ∧ wrap64 (ar : Int) = ar := by
  refine ⟨W * H, ?_, wr64 (by omega)⟩
  rw [← Int.natCast_mul]
  exact wr64 (by omega)
theorem eq_rows {W H g2 N c2 g4 N4 c4 : Nat} {P : Nat → Nat → Bool} {w : World} (hN : N = H * stride W) (hr : RowAt w g2 c2 W H P) (hN4 : N4 = H * stride W) (hr4 : RowAt w g4 c4 W H P) (h1 : 1 ≤ W) (h2 : 1 ≤ H) (h3 : W * H ≤ 1048576) :
    Calls Try.prog 18 #[.agg #[.int .i64 W, .int .i64 H, .slice (some ⟨g2, 0, none⟩) N c2], .agg #[.int .i64 W, .int .i64 H, .slice (some ⟨g4, 0, none⟩) N4 c4]] w fun e w' => e = .returned (.bool true) ∧ Fr (fun _ => False) w w' := by
  subst hN4
  exact eq_rb hN hr (hr4.bm h1 h2 h3) (fun _ _ _ _ => rfl)
theorem rows_same {a b c d : Nat} (h1 : a < b) (h2 : b ≤ c) (h3 : b ≤ d) : c ≠ a ∧ d ≠ a := ⟨by omega, by omega⟩
/-- A new row behind two pages and a box. -/
structure NewG (gw : Nat) (w0 w7 w8 : World) (pa ba ga pb bb gb bO : Nat) : Prop where
  n0 : w0.heap.size ≤ gw
  n7 : w7.heap.size ≤ gw
  nz : w8.heap.size ≠ gw
  a1 : pa ≠ gw
  a2 : ba ≠ gw
  a3 : ga ≠ gw
  b1 : pb ≠ gw
  b2 : bb ≠ gw
  b3 : gb ≠ gw
  o : bO ≠ gw
theorem NewG.mk' {gw : Nat} {w0 w7 wr w8 : World} {pa ba ga ca pb bb gb cb bO W H d s n d' s' n' : Nat} {P Q : Nat → Nat → Bool} (h : PgAt wr pa ba ga ca W H d s n P) (k : PgAt wr pb bb gb cb W H d' s' n' Q) (h0 : w0.heap.size ≤ wr.heap.size) (h7 : w7.heap.size ≤ wr.heap.size) (hg : wr.heap.size ≤ gw) (hl : gw < w8.heap.size) (ho : bO < wr.heap.size) : NewG gw w0 w7 w8 pa ba ga pb bb gb bO := by
  have h1 := h.lt
  have h2 := h.map.lt
  have h3 := h.map.glt
  have k1 := k.lt
  have k2 := k.map.lt
  have k3 := k.map.glt
  exact ⟨by omega, by omega, by omega, by omega, by omega, by omega, by omega, by omega, by omega, by omega⟩

end Go.Proofs.Ytejempbgpkeheaa
