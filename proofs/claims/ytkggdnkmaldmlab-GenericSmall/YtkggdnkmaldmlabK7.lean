/- Package generic: what holds behind so many pixels of a row. -/
import Derived.Test.YtkggdnkmaldmlabKLi
import Derived.Test.YtkggdnkmaldmlabKRo
import Derived.Test.YtkggdnkmaldmlabKCt
namespace Go.Proofs.Ytkggdnkmaldmlab
open Go.RowKit

theorem wrap_eq (a : Int) : IntKind.i64.wrap a = wrap64 a := by
  rw [IntKind.wrap_i64]; unfold wrap64; omega
/-- A pixel is written by its word. -/
theorem RowAt.pixel {w : World} {g cap W H : Nat} {P : Pxs} (h : RowAt w g cap W H P) {x y v : Nat} {c : Bool} (hx : x < W) (hy : y < H) (hv : v < 18446744073709551616) (hb : ∀ k, k < 64 → v.testBit (63 - k) = (if k = x % 64 then c else (wd W P y (x / 64)).testBit (63 - k))) : RowAt (w.setCell ⟨g, y * stride W + x / 64, none⟩ (.int .u64 (v : Int))) g cap W H (putPix P x y c) := by
  have hj : x / 64 < stride W := by unfold stride; omega
  refine h.put hy hj hv (fun k hk => ?_) (fun a b ha hb' hn => ?_)
  · rw [hb k hk]
    unfold putPix
    by_cases e : k = x % 64
    · rw [if_pos e, if_pos (by omega), decide_eq_true (by omega), Bool.true_and]
    · rw [if_neg e, if_neg (by omega)]
      unfold wd
      rw [bit_wordOf _ _ hk]
  · unfold putPix
    rw [if_neg (by rintro ⟨rfl, rfl⟩; exact hn ⟨rfl, rfl⟩)]
/-- A word with a bit more, or with none. -/
theorem word_none (W : Nat) (P : Pxs) (x y : Nat) (hx : x < W) (h : P x y = false) : ∀ k, k < 64 → (wd W P y (x / 64)).testBit (63 - k) = (if k = x % 64 then false else (wd W P y (x / 64)).testBit (63 - k)) := by
  intro k hk
  by_cases e : k = x % 64
  · rw [if_pos e, e, pix_wd P hx, h]
  · rw [if_neg e]
theorem word_more (X x : Nat) : ∀ k, k < 64 → (X ||| 2 ^ (63 - x % 64)).testBit (63 - k) = (if k = x % 64 then true else X.testBit (63 - k)) := by
  intro k hk
  rw [Nat.testBit_or, Nat.testBit_two_pow]
  by_cases e : k = x % 64
  · rw [if_pos e, decide_eq_true (by omega), Bool.or_true]
  · rw [if_neg e, decide_eq_false (by omega), Bool.or_false]
theorem bor_u64 (a b : Nat) (ha : a < 18446744073709551616) (hb : b < 18446744073709551616) : bits .or .u64 (a : Int) (b : Int) = ((a ||| b : Nat) : Int) := by
  have hx : a ||| b < 2 ^ 64 := Nat.or_lt_two_pow ha hb
  show IntKind.u64.wrap ((BitVec.ofInt 64 (a : Int) ||| BitVec.ofInt 64 (b : Int)).toNat : Int) = _
  rw [BitVec.toNat_or, BitVec.ofInt_natCast, BitVec.ofInt_natCast, BitVec.toNat_ofNat, BitVec.toNat_ofNat, Nat.mod_eq_of_lt (a := a) (by omega), Nat.mod_eq_of_lt (a := b) (by omega), IntKind.wrap_u64]
  omega
theorem ownJ_put (W : Nat) (P : Pxs) (t x y z : Nat) (hx : x < W) (hz : z < 2) : ownJ W (putPix P x y (decide (z = 1))) t (x + 1) y = (2 * ownJ W P t x y + z) % 2 ^ cntS t 2 := by
  rw [ownJ_next W _ t x y hx]
  have e1 : ownJ W (putPix P x y (decide (z = 1))) t x y = ownJ W P t x y := by
    unfold ownJ
    refine gathN_congr _ _ fun k hk => ?_
    have := own_cnt t
    unfold pixJ
    by_cases h : 0 ≤ (x : Int) + fstS t 2 + k ∧ (x : Int) + fstS t 2 + k < W ∧ 0 ≤ (y : Int)
    · rw [if_pos h, if_pos h]
      unfold putPix
      rw [if_neg (by omega)]
    · rw [if_neg h, if_neg h]
  have e2 : (putPix P x y (decide (z = 1)) x y).toNat = z := by
    unfold putPix
    rw [if_pos ⟨rfl, rfl⟩]
    rcases (show z = 0 ∨ z = 1 by omega) with rfl | rfl <;> rfl
  rw [e1, e2]
theorem came_num (C z c : Nat) (hC : C ≤ 16) (hz : z < 2) (hc : c ≤ 4) : bits .and .i64 (bits .or .i64 ((C : Int) * 2) (z : Int)) ((2 ^ c - 1 : Nat) : Int) = (((2 * C + z) % 2 ^ c : Nat) : Int) := by
  rw [bor64_one C z (by omega) (by omega), band64 _ c (by omega) (by omega)]

/-- Where the pixels of a row stand behind n of them. -/
structure PxAt {fn : Nat} {v : Value} (D : Who fn v) (base t W H y g cap gi : Nat) (P : Pxs) (s : D.S) (w0 : World) (n : Nat) (sN : D.S) (w : World) : Prop where
  at_ : D.At w sN
  abs : D.abs sN = (pixW D.ask base t W y n (D.abs s, P)).1
  row : RowAt w g cap W H (pixW D.ask base t W y n (D.abs s, P)).2
  ints : IntRow w gi W (fun x => cxJ W P t x y)
  fr : Fr (fun k => D.own s k ∨ k = g) w0 w
  own : ∀ k, D.own sN k → D.own s k ∨ w0.heap.size ≤ k
  left : W ≤ D.left (D.abs sN) + n
  le : ∀ a, a < W → P a y = true → (pixW D.ask base t W y n (D.abs s, P)).2 a y = true

theorem PxAt.next {fn : Nat} {v : Value} {D : Who fn v} {base t W H y g cap gi : Nat} {P : Pxs} {s : D.S} {w0 : World} {n : Nat} {sN : D.S} {wr : World} (h : PxAt D base t W H y g cap gi P s w0 n sN wr)
    (hg : ¬ D.own s g) (hgi : ¬ D.own s gi) (hgg : gi ≠ g) (hl1 : g < w0.heap.size) (hl2 : gi < w0.heap.size) {z : Nat} {an : D.A} (hr : (z, an) = D.ask (pixW D.ask base t W y n (D.abs s, P)).1 ((base + cxJ W (pixW D.ask base t W y n (D.abs s, P)).2 t n y : Nat) : Int) ((pixW D.ask base t W y n (D.abs s, P)).2 n y).toNat)
    (hz : ((pixW D.ask base t W y n (D.abs s, P)).2 n y).toNat ≤ z) (hz2 : z < 2) {s5 : D.S} {w5 : World} (h5 : D.At w5 s5) (ha5 : D.abs s5 = an) (hf5 : Fr (fun k => D.own sN k) wr w5) (ho5 : ∀ k, D.own s5 k → D.own sN k ∨ wr.heap.size ≤ k)
    {w6 : World} (hf6 : Fr (fun k => k = g) w5 w6) (hr6 : RowAt w6 g cap W H (putPix (pixW D.ask base t W y n (D.abs s, P)).2 n y (decide (z = 1)))) : PxAt D base t W H y g cap gi P s w0 (n + 1) s5 w6 := by
  have e : pixW D.ask base t W y (n + 1) (D.abs s, P) = (an, putPix (pixW D.ask base t W y n (D.abs s, P)).2 n y (decide (z = 1))) := by
    rw [pixW, ← hr]
  have hog : ∀ k, D.own sN k → k ≠ g ∧ k ≠ gi := fun k hk => by
    rcases h.own k hk with a | a
    · exact ⟨fun e => hg (e ▸ a), fun e => hgi (e ▸ a)⟩
    · omega
  have hsz := h.fr.size
  have hog5 : ∀ k, D.own s5 k → k ≠ g := fun k hk => by
    rcases ho5 k hk with a | a
    · exact (hog k a).1
    · omega
  refine ⟨D.kept h5 hf6 (fun k hk => hog5 k hk), by rw [e]; exact ha5, by rw [e]; exact hr6, (h.ints.kept hf5 (fun a => (hog _ a).2 rfl)).kept hf6 hgg, ?_, ?_, ?_, ?_⟩
  · exact (h.fr.trans hf5 (fun i hi a => Or.inl (by rcases h.own i a with b | b; exact b; omega))).trans hf6 (fun i _ a => Or.inr a)
  · intro k hk
    rcases ho5 k hk with a | a
    · exact h.own k a
    · exact Or.inr (by omega)
  · have h1 := h.left
    have h2 := D.left_ask (pixW D.ask base t W y n (D.abs s, P)).1 ((base + cxJ W (pixW D.ask base t W y n (D.abs s, P)).2 t n y : Nat) : Int) ((pixW D.ask base t W y n (D.abs s, P)).2 n y).toNat
    rw [← hr] at h2
    rw [h.abs] at h1
    rw [ha5]
    simp only [] at h2
    omega
  · intro a haW hP
    have h3 := h.le a haW hP
    rw [e]
    show putPix _ n y _ a y = true
    unfold putPix
    by_cases ha : a = n
    · subst ha
      rw [if_pos ⟨rfl, rfl⟩]
      rw [h3] at hz
      exact decide_eq_true (by simp at hz; omega)
    · rw [if_neg (by omega)]; exact h3

end Go.Proofs.Ytkggdnkmaldmlab

/- Package generic: what holds behind so many rows. -/
namespace Go.Proofs.Ytkggdnkmaldmlab
open Go.RowKit

theorem pixW_left {fn : Nat} {v : Value} (D : Who fn v) (base t W y : Nat) (s : D.A × Pxs) : ∀ n, D.left s.1 ≤ D.left (pixW D.ask base t W y n s).1 + n
  | 0 => Nat.le_refl _
  | n + 1 => by
    have h1 := pixW_left D base t W y s n
    have h2 := D.left_ask (pixW D.ask base t W y n s).1 ((base + cxJ W (pixW D.ask base t W y n s).2 t n y : Nat) : Int) ((pixW D.ask base t W y n s).2 n y).toNat
    rw [pixW]
    show _ ≤ D.left (D.ask _ _ _).2 + (n + 1)
    omega
theorem rowW_left {fn : Nat} {v : Value} (D : Who fn v) (base t W : Nat) (skip : Bool) (y : Nat) (s : D.A × Pxs) : D.left s.1 ≤ D.left (rowW D.ask base t W skip y s).1 + (W + 1) := by
  unfold rowW
  have h2 := D.left_ask s.1 ((base + sizeT t : Nat) : Int) (sameR W s.2 y).toNat
  split
  · split
    · have h1 := pixW_left D base t W y ((D.ask s.1 ((base + sizeT t : Nat) : Int) (sameR W s.2 y).toNat).2, s.2) W
      simp only [] at h1
      omega
    · simp only []
      omega
  · have h1 := pixW_left D base t W y s W
    omega

/-- Where the rows stand behind n of them. -/
structure ThAt {fn : Nat} {v : Value} (D : Who fn v) (base t W H g cap : Nat) (skip : Bool) (P : Pxs) (s : D.S) (w0 : World) (n : Nat) (sN : D.S) (up : Value) (w : World) : Prop where
  at_ : D.At w sN
  abs : D.abs sN = (thrW D.ask base t W skip n (D.abs s, P)).1
  row : RowAt w g cap W H (thrW D.ask base t W skip n (D.abs s, P)).2
  fr : Fr (fun k => D.own s k ∨ k = g) w0 w
  own : ∀ k, D.own sN k → D.own s k ∨ w0.heap.size ≤ k
  left : (H - n) * (W + 1) ≤ D.left (D.abs sN)
  up : ∀ w', Fr (fun k => D.own sN k) w w' → Seen w' up (upL W (thrW D.ask base t W skip n (D.abs s, P)).2 n)

theorem RowAt.line {w : World} {g cap W H : Nat} {P : Pxs} (h : RowAt w g cap W H P) (y rc : Nat) (hy : y < H) (hS : stride W ≤ 1048576) : Seen w (.slice (some ⟨g, y * stride W, none⟩) (stride W) rc) (lineL W P y) := by
  have hHS : y * stride W + stride W ≤ H * stride W := by
    have := Nat.mul_le_mul_right (stride W) (show y + 1 ≤ H by omega)
    rw [Nat.add_mul, Nat.one_mul] at this; exact this
  refine ⟨_, rc, by rw [length_lineL], by rw [length_lineL]; omega, fun _ => ⟨g, y * stride W, rfl, fun j hj => ?_⟩⟩
  rw [length_lineL] at hj
  rw [World.ownsRow.cellAt h _ (by omega), wordCells_get, render_get P hy hj, lineL_get W P y j hj]; rfl

theorem ThAt.next {fn : Nat} {v : Value} {D : Who fn v} {base t W H g cap : Nat} {skip : Bool} {P : Pxs} {s : D.S} {w0 : World} {n : Nat} {sN : D.S} {up : Value} {wr : World} (h : ThAt D base t W H g cap skip P s w0 n sN up wr)
    (hg : ¬ D.own s g) (hl : g < w0.heap.size) (hn : n < H) (hS : stride W ≤ 1048576) {s1 : D.S} {w1 : World} (h5 : D.At w1 s1) (ha5 : D.abs s1 = (rowW D.ask base t W skip n (D.abs sN, (thrW D.ask base t W skip n (D.abs s, P)).2)).1)
    (hr5 : RowAt w1 g cap W H (rowW D.ask base t W skip n (D.abs sN, (thrW D.ask base t W skip n (D.abs s, P)).2)).2) (hf5 : Fr (fun k => D.own sN k ∨ k = g) wr w1) (ho5 : ∀ k, D.own s1 k → D.own sN k ∨ wr.heap.size ≤ k) (rc : Nat) :
    ThAt D base t W H g cap skip P s w0 (n + 1) s1 (.slice (some ⟨g, n * stride W, none⟩) (stride W) rc) w1 := by
  have e0 : (D.abs sN, (thrW D.ask base t W skip n (D.abs s, P)).2) = thrW D.ask base t W skip n (D.abs s, P) := by rw [h.abs]
  rw [e0] at ha5 hr5
  have e : thrW D.ask base t W skip (n + 1) (D.abs s, P) = rowW D.ask base t W skip n (thrW D.ask base t W skip n (D.abs s, P)) := rfl
  have hsz := h.fr.size
  have hog : ∀ k, D.own s1 k → k ≠ g := fun k hk => by
    rcases ho5 k hk with a | a
    · rcases h.own k a with b | b
      · exact fun e => hg (e ▸ b)
      · omega
    · omega
  refine ⟨h5, by rw [e]; exact ha5, by rw [e]; exact hr5, ?_, ?_, ?_, ?_⟩
  · refine h.fr.trans hf5 (fun i hi a => ?_)
    rcases a with a | a
    · rcases h.own i a with b | b
      · exact Or.inl b
      · omega
    · exact Or.inr a
  · intro k hk
    rcases ho5 k hk with a | a
    · exact h.own k a
    · exact Or.inr (by omega)
  · have h1 := h.left
    have h2 := rowW_left D base t W skip n (thrW D.ask base t W skip n (D.abs s, P))
    rw [← ha5, ← h.abs] at h2
    have e3 : (H - n) * (W + 1) = (H - (n + 1)) * (W + 1) + (W + 1) := by
      rw [show H - n = (H - (n + 1)) + 1 by omega, Nat.add_mul, Nat.one_mul]
    omega
  · intro w' f
    rw [upL_line, e]
    exact (hr5.kept f (fun a => hog _ a rfl)).line n rc hn hS

end Go.Proofs.Ytkggdnkmaldmlab
