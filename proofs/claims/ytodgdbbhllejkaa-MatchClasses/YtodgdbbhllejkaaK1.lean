/- Plain mathematics of rasters: words of 64 pixels, the highest bit first; a raster as the words of a function of places. -/
import Derived.WalkKit
import Derived.WalkSpells
import Derived.WalkLawsBesides
import Derived.Test.YtodgdbbhllejkaaRows
import Derived.Deep.QuietTactic
import Derived.BigQuiet
import Derived.BigRegion
import Derived.Laws.Bits128
namespace Go.Proofs.Ytodgdbbhllejkaa

def acc (f : Nat → Bool) : Nat → Nat
  | 0 => 0
  | n + 1 => 2 * acc f n + (f n).toNat

theorem acc_lt (f : Nat → Bool) : ∀ n, acc f n < 2 ^ n
  | 0 => by simp [acc]
  | n + 1 => by
    have := acc_lt f n
    have h2 : (f n).toNat ≤ 1 := by cases f n <;> simp
    simp only [acc, Nat.pow_succ]; omega

theorem testBit_acc (f : Nat → Bool) : ∀ n i, (acc f n).testBit i = (decide (i < n) && f (n - 1 - i))
  | 0, i => by simp [acc]
  | n + 1, 0 => by
    simp only [acc, Nat.testBit_zero]
    cases h : f n <;> simp [h] <;> omega
  | n + 1, i + 1 => by
    simp only [acc, Nat.testBit_succ]
    rw [show (2 * acc f n + (f n).toNat) / 2 = acc f n from by cases f n <;> simp <;> omega, testBit_acc f n i]
    rw [show n + 1 - 1 - (i + 1) = n - 1 - i from by omega]
    simp

/-- The word whose pixels are f 0 .. f 63. -/
def wordOf (f : Nat → Bool) : Nat := acc f 64
theorem wordOf_lt (f : Nat → Bool) : wordOf f < 18446744073709551616 := acc_lt f 64
theorem testBit_wordOf (f : Nat → Bool) (i : Nat) : (wordOf f).testBit i = (decide (i < 64) && f (63 - i)) := testBit_acc f 64 i

theorem word_eq {x : Nat} {f : Nat → Bool} (hx : x < 18446744073709551616) (h : ∀ k, k < 64 → x.testBit (63 - k) = f k) : x = wordOf f := by
  apply Nat.eq_of_testBit_eq
  intro i
  rw [testBit_wordOf]
  by_cases hi : i < 64
  · have := h (63 - i) (by omega)
    rw [show 63 - (63 - i) = i from by omega] at this
    simp [this, hi]
  · have : x.testBit i = false := Nat.testBit_lt_two_pow (Nat.lt_of_lt_of_le hx (by rw [show (18446744073709551616 : Nat) = 2 ^ 64 from rfl]; exact Nat.pow_le_pow_right (by omega) (by omega)))
    simp [this, hi]
theorem wordOf_congr {f g : Nat → Bool} (h : ∀ k, k < 64 → f k = g k) : wordOf f = wordOf g :=
  word_eq (wordOf_lt f) (fun k hk => by rw [testBit_wordOf, show 63 - (63 - k) = k from by omega]; simp [show 63 - k < 64 from by omega, h k hk])
theorem bit_wordOf (f : Nat → Bool) (k : Nat) (hk : k < 64) : (wordOf f).testBit (63 - k) = f k := by
  rw [testBit_wordOf, show 63 - (63 - k) = k from by omega]; simp [show 63 - k < 64 from by omega]
theorem wordOf_false : wordOf (fun _ => false) = 0 := by decide +kernel

def stride (W : Nat) : Nat := (W + 63) / 64

/-- Word j of row y. -/
def wd (W : Nat) (P : Nat → Nat → Bool) (y j : Nat) : Nat := wordOf fun k => decide (64 * j + k < W) && P (64 * j + k) y

/-- All words of a raster. -/
def render (W H : Nat) (P : Nat → Nat → Bool) : List Nat := (List.range (H * stride W)).map fun i => wd W P (i / stride W) (i % stride W)

theorem length_render (W H : Nat) (P : Nat → Nat → Bool) : (render W H P).length = H * stride W := by simp [render]
theorem wd_lt (W : Nat) (P : Nat → Nat → Bool) (y j : Nat) : wd W P y j < 18446744073709551616 := wordOf_lt _
theorem render_lt {W H : Nat} {P : Nat → Nat → Bool} : ∀ x ∈ render W H P, x < 18446744073709551616 := by
  intro x hx
  simp only [render, List.mem_map] at hx
  obtain ⟨_, _, rfl⟩ := hx
  exact wordOf_lt _
theorem stride_pos {W : Nat} (h : 0 < W) : 0 < stride W := by unfold stride; omega
theorem at_lt {W H y j : Nat} (hy : y < H) (hj : j < stride W) : y * stride W + j < H * stride W := by
  have : (y + 1) * stride W ≤ H * stride W := Nat.mul_le_mul_right _ hy
  rw [Nat.add_mul] at this; omega
theorem at_div {W y j : Nat} (hj : j < stride W) : (y * stride W + j) / stride W = y := by
  rw [Nat.mul_comm, Nat.mul_add_div (by omega), Nat.div_eq_of_lt hj, Nat.add_zero]
theorem at_mod {W y j : Nat} (hj : j < stride W) : (y * stride W + j) % stride W = j := by
  rw [Nat.mul_comm, Nat.mul_add_mod, Nat.mod_eq_of_lt hj]
theorem render_get {W H y j : Nat} (P : Nat → Nat → Bool) (hy : y < H) (hj : j < stride W) : (render W H P)[y * stride W + j]? = some (wd W P y j) := by
  unfold render
  rw [List.getElem?_map, List.getElem?_range (at_lt hy hj)]
  simp [at_div hj, at_mod hj]
theorem render_get' {W H i : Nat} (P : Nat → Nat → Bool) (hi : i < H * stride W) : (render W H P)[i]? = some (wd W P (i / stride W) (i % stride W)) := by
  unfold render
  rw [List.getElem?_map, List.getElem?_range hi]
  rfl
theorem wd_congr {W : Nat} {P Q : Nat → Nat → Bool} {y j : Nat} (h : ∀ x, x < W → P x y = Q x y) : wd W P y j = wd W Q y j := by
  apply wordOf_congr
  intro k _
  by_cases hx : 64 * j + k < W
  · simp [hx, h _ hx]
  · simp [hx]
theorem render_congr {W H : Nat} {P Q : Nat → Nat → Bool} (h : ∀ x y, x < W → y < H → P x y = Q x y) : render W H P = render W H Q := by
  apply List.map_congr_left
  intro i hi
  have hi' : i < H * stride W := by simpa using hi
  apply wd_congr
  intro x hx
  apply h x _ hx
  by_cases hs : stride W = 0
  · rw [hs] at hi'; omega
  · exact (Nat.div_lt_iff_lt_mul (by omega)).2 hi'
theorem div_lt_of {a b c : Nat} (h : a < b * c) : a / c < b := by
  by_cases hc : c = 0
  · subst hc; omega
  · exact (Nat.div_lt_iff_lt_mul (by omega)).2 h

/-- A word is written: the raster whose pixels it has. -/
theorem render_set {W H y j x : Nat} {P Q : Nat → Nat → Bool} (hy : y < H) (hj : j < stride W) (hx : x < 18446744073709551616)
    (hw : ∀ k, k < 64 → x.testBit (63 - k) = (decide (64 * j + k < W) && Q (64 * j + k) y)) (ho : ∀ a b, a < W → b < H → ¬ (b = y ∧ a / 64 = j) → Q a b = P a b) :
    (render W H P).set (y * stride W + j) x = render W H Q := by
  apply List.ext_getElem?
  intro i
  rw [List.getElem?_set]
  by_cases hi : y * stride W + j = i
  · subst hi
    rw [if_pos rfl, if_pos (by rw [length_render]; exact at_lt hy hj), render_get Q hy hj, word_eq hx hw]
    rfl
  · rw [if_neg hi]
    by_cases hl : i < H * stride W
    · rw [render_get' P hl, render_get' Q hl]
      refine congrArg some ?_
      refine wordOf_congr ?_
      intro k hk
      by_cases hxx : 64 * (i % stride W) + k < W
      · simp only [hxx, decide_true, Bool.true_and]
        refine (ho _ _ hxx (div_lt_of hl) ?_).symm
        rintro ⟨h1, h2⟩
        apply hi
        have h3 : i % stride W = j := by omega
        have := Nat.div_add_mod i (stride W)
        rw [h1, h3, Nat.mul_comm] at this
        exact this
      · simp [hxx]
    · rw [List.getElem?_eq_none (by rw [length_render]; omega), List.getElem?_eq_none (by rw [length_render]; omega)]

/-- The pixel of a raster's word. -/
theorem pix_wd {W x y : Nat} (P : Nat → Nat → Bool) (hx : x < W) : (wd W P y (x / 64)).testBit (63 - x % 64) = P x y := by
  unfold wd
  rw [bit_wordOf _ _ (by omega), show 64 * (x / 64) + x % 64 = x from by omega]
  simp [hx]
theorem render_inj {W H : Nat} {P Q : Nat → Nat → Bool} (h : render W H P = render W H Q) : ∀ x y, x < W → y < H → P x y = Q x y := by
  intro x y hx hy
  have hj : x / 64 < stride W := by unfold stride; omega
  have h1 := render_get P hy hj
  rw [h, render_get Q hy hj] at h1
  rw [← pix_wd P hx, ← pix_wd Q hx]
  simp only [Option.some.injEq] at h1
  rw [h1]

/-- How many bits are 1. -/
def pop : Nat → Nat → Nat
  | 0, _ => 0
  | n + 1, x => x % 2 + pop n (x / 2)
def pops (l : List Nat) : Nat := (l.map (pop 64)).sum

theorem pop_zero : ∀ n, pop n 0 = 0
  | 0 => rfl
  | n + 1 => by simp [pop, pop_zero n]
theorem pop_le : ∀ n x, pop n x ≤ n
  | 0, _ => Nat.le_refl _
  | n + 1, x => by have := pop_le n (x / 2); simp only [pop]; omega
theorem pops_le (l : List Nat) : pops l ≤ 64 * l.length := by
  induction l with
  | nil => simp [pops]
  | cons a t ih =>
    have h1 : pops (a :: t) = pop 64 a + pops t := by simp [pops]
    have h2 := pop_le 64 a
    have h3 : (a :: t).length = t.length + 1 := rfl
    omega
theorem pops_take_succ {l : List Nat} {k x : Nat} (h : l[k]? = some x) : pops (l.take (k + 1)) = pops (l.take k) + pop 64 x := by
  unfold pops
  rw [List.take_add_one, h]
  simp
theorem pops_append (a b : List Nat) : pops (a ++ b) = pops a + pops b := by simp [pops]

end Go.Proofs.Ytodgdbbhllejkaa

/- How many pixels of a raster are black: by its words, and by its places. A pixel at any place, white outside. -/
namespace Go.Proofs.Ytodgdbbhllejkaa

def sumTo (f : Nat → Nat) : Nat → Nat
  | 0 => 0
  | n + 1 => sumTo f n + f n
def cnt (W H : Nat) (P : Nat → Nat → Bool) : Nat := sumTo (fun y => sumTo (fun x => (P x y).toNat) W) H

theorem sumTo_congr {f g : Nat → Nat} : ∀ {n : Nat}, (∀ k, k < n → f k = g k) → sumTo f n = sumTo g n
  | 0, _ => rfl
  | n + 1, h => by
    simp only [sumTo]
    rw [sumTo_congr (fun k hk => h k (by omega)), h n (by omega)]
theorem sumTo_add (f : Nat → Nat) (a : Nat) : ∀ b, sumTo f (a + b) = sumTo f a + sumTo (fun k => f (a + k)) b
  | 0 => by simp [sumTo]
  | b + 1 => by
    rw [← Nat.add_assoc]
    simp only [sumTo]
    rw [sumTo_add f a b]; omega
theorem sumTo_zero : ∀ n, sumTo (fun _ => 0) n = 0
  | 0 => rfl
  | n + 1 => by simp [sumTo, sumTo_zero n]
theorem sumTo_blocks (f : Nat → Nat) (S : Nat) : ∀ H, sumTo (fun y => sumTo (fun j => f (y * S + j)) S) H = sumTo f (H * S)
  | 0 => by simp [sumTo]
  | H + 1 => by
    simp only [sumTo]
    rw [sumTo_blocks f S H, Nat.add_mul, Nat.one_mul, sumTo_add]
theorem sumTo_plus (f g : Nat → Nat) : ∀ n, sumTo (fun k => f k + g k) n = sumTo f n + sumTo g n
  | 0 => rfl
  | n + 1 => by simp only [sumTo]; rw [sumTo_plus f g n]; omega
theorem sumTo_le {f g : Nat → Nat} : ∀ {n : Nat}, (∀ k, k < n → f k ≤ g k) → sumTo f n ≤ sumTo g n
  | 0, _ => Nat.le_refl _
  | n + 1, h => by
    have h1 := sumTo_le (f := f) (g := g) (n := n) (fun k hk => h k (by omega))
    have h2 := h n (by omega)
    simp only [sumTo]; omega
theorem sumTo_const (c : Nat) : ∀ n, sumTo (fun _ => c) n = n * c
  | 0 => by simp [sumTo]
  | n + 1 => by simp only [sumTo]; rw [sumTo_const c n, Nat.add_mul, Nat.one_mul]
theorem sumTo_mono (f : Nat → Nat) {a b : Nat} (h : a ≤ b) : sumTo f a ≤ sumTo f b := by
  rw [show b = a + (b - a) from by omega, sumTo_add]; omega
theorem sum_range (f : Nat → Nat) : ∀ n, ((List.range n).map f).sum = sumTo f n
  | 0 => rfl
  | n + 1 => by rw [List.range_succ]; simp [sum_range f n, sumTo]

theorem pop_acc (f : Nat → Bool) : ∀ n, pop n (acc f n) = sumTo (fun k => (f k).toNat) n
  | 0 => rfl
  | n + 1 => by
    simp only [acc, pop, sumTo]
    rw [show (2 * acc f n + (f n).toNat) / 2 = acc f n from by cases f n <;> simp <;> omega, pop_acc f n]
    rw [show (2 * acc f n + (f n).toNat) % 2 = (f n).toNat from by cases f n <;> simp <;> omega]
    omega

theorem pops_render (W H : Nat) (P : Nat → Nat → Bool) : pops (render W H P) = cnt W H P := by
  unfold pops render cnt
  rw [List.map_map, sum_range]
  by_cases hW : W = 0
  · subst hW
    simp [stride, sumTo, sumTo_zero]
  have hS : 0 < stride W := by unfold stride; omega
  have h1 : ∀ y, sumTo (fun j => pop 64 (wd W P y j)) (stride W) = sumTo (fun x => (P x y).toNat) W := by
    intro y
    have e1 : ∀ j, pop 64 (wd W P y j) = sumTo (fun k => (fun x => (decide (x < W) && P x y).toNat) (j * 64 + k)) 64 := by
      intro j
      unfold wd wordOf
      rw [pop_acc]
      apply sumTo_congr
      intro k _
      rw [Nat.mul_comm 64 j]
    rw [sumTo_congr (fun j _ => e1 j), sumTo_blocks (fun x => (decide (x < W) && P x y).toNat) 64]
    have e2 : stride W * 64 = W + (stride W * 64 - W) := by unfold stride; omega
    rw [e2, sumTo_add]
    rw [sumTo_congr (n := W) (g := fun x => (P x y).toNat) (fun k hk => by simp [hk])]
    rw [sumTo_congr (n := stride W * 64 - W) (g := fun _ => 0) (fun k _ => by rw [decide_eq_false (by omega)]; rfl), sumTo_zero]
    rfl
  rw [← sumTo_congr (fun y _ => h1 y), ← sumTo_blocks _ (stride W) H]
  apply sumTo_congr
  intro y _
  apply sumTo_congr
  intro j hj
  simp only [Function.comp]
  rw [at_div hj, at_mod hj]

theorem cnt_congr {W H : Nat} {P Q : Nat → Nat → Bool} (h : ∀ x y, x < W → y < H → P x y = Q x y) : cnt W H P = cnt W H Q := by
  unfold cnt
  apply sumTo_congr
  intro y hy
  apply sumTo_congr
  intro x hx
  rw [h x y hx hy]
theorem cnt_le (W H : Nat) (P : Nat → Nat → Bool) : cnt W H P ≤ H * W := by
  unfold cnt
  have h1 : ∀ y, y < H → sumTo (fun x => (P x y).toNat) W ≤ W := by
    intro y _
    have := sumTo_le (f := fun x => (P x y).toNat) (g := fun _ => 1) (n := W) (fun k _ => by cases P k y <;> simp)
    rw [sumTo_const] at this
    omega
  have := sumTo_le (n := H) (g := fun _ => W) h1
  rw [sumTo_const] at this
  exact this

/-- A pixel at any place: white outside. -/
def getPix (W H : Nat) (P : Nat → Nat → Bool) (x y : Int) : Bool := decide (0 ≤ x ∧ x < W ∧ 0 ≤ y ∧ y < H) && P x.toNat y.toNat
def cropPix (W H : Nat) (P : Nat → Nat → Bool) (x y : Int) : Nat → Nat → Bool := fun a b => getPix W H P (x + a) (y + b)
theorem getPix_in {W H : Nat} {P : Nat → Nat → Bool} {x y : Nat} (hx : x < W) (hy : y < H) : getPix W H P x y = P x y := by
  unfold getPix
  rw [decide_eq_true (by omega)]; simp
theorem getPix_out {W H : Nat} {P : Nat → Nat → Bool} {x y : Int} (h : ¬ (0 ≤ x ∧ x < W ∧ 0 ≤ y ∧ y < H)) : getPix W H P x y = false := by
  unfold getPix
  rw [decide_eq_false h]; rfl
theorem crop_crop (W H w h : Nat) (P : Nat → Nat → Bool) (x y : Int) (u v : Nat) : ∀ a b, a < w - u → b < h - v → cropPix w h (cropPix W H P x y) u v a b = cropPix W H P (x + u) (y + v) a b := by
  intro a b ha hb
  show getPix w h _ ((u : Int) + a) ((v : Int) + b) = _
  rw [show (u : Int) + a = ((u + a : Nat) : Int) from by omega, show (v : Int) + b = ((v + b : Nat) : Int) from by omega, getPix_in (by omega) (by omega)]
  unfold cropPix
  rw [show x + ((u + a : Nat) : Int) = x + u + a from by omega, show y + ((v + b : Nat) : Int) = y + v + b from by omega]

end Go.Proofs.Ytodgdbbhllejkaa

/- What stays of memory where some blocks are written: 'Fr S w w''; a map's blocks as a raster. -/
namespace Go.Proofs.Ytodgdbbhllejkaa
open Go.RowKit

/-- All blocks that there were, but for those of S, are as they were. -/
structure Fr (S : Nat → Prop) (w w' : World) : Prop where
  os : w'.os = w.os
  tape : w'.tape = w.tape
  output : w'.output = w.output
  size : w.heap.size ≤ w'.heap.size
  block : ∀ k, k < w.heap.size → ¬ S k → w'.heap[k]? = w.heap[k]?

theorem Fr.refl (S : Nat → Prop) (w : World) : Fr S w w := ⟨rfl, rfl, rfl, Nat.le_refl _, fun _ _ _ => rfl⟩
theorem Fr.trans {S T : Nat → Prop} {a b c : World} (h : Fr S a b) (k : Fr T b c) (hs : ∀ i, i < a.heap.size → T i → S i) : Fr S a c :=
  ⟨k.os.trans h.os, k.tape.trans h.tape, k.output.trans h.output, Nat.le_trans h.size k.size, fun i hi hn => (k.block i (Nat.lt_of_lt_of_le hi h.size) (fun ht => hn (hs i hi ht))).trans (h.block i hi hn)⟩
theorem Fr.mono {S T : Nat → Prop} {a b : World} (h : Fr S a b) (hs : ∀ i, i < a.heap.size → S i → T i) : Fr T a b :=
  ⟨h.os, h.tape, h.output, h.size, fun i hi hn => h.block i hi (fun hh => hn (hs i hi hh))⟩
theorem Fr.drew {S : Nat → Prop} {a b : World} (h : Fr S a b) : Fr S a b.drew := ⟨h.os, h.tape, h.output, h.size, h.block⟩
theorem Fr.drewN {S : Nat → Prop} {a b : World} (h : Fr S a b) (n : Nat) : Fr S a (b.drewN n) := ⟨h.os, h.tape, h.output, h.size, h.block⟩
theorem Fr.alloc {S : Nat → Prop} {a b : World} (h : Fr S a b) (o : Obj) : Fr S a (b.alloc o) :=
  h.trans (T := fun _ => False) ⟨rfl, rfl, rfl, by simp, fun k hk _ => Below.heap_alloc _ _ _ hk⟩ (fun _ _ hh => hh.elim)
theorem Fr.setCell {S : Nat → Prop} {a b : World} (h : Fr S a b) {p : Addr} (hp : p.block < a.heap.size → S p.block) (u : Value) : Fr S a (b.setCell p u) :=
  h.trans (T := fun k => k = p.block) ⟨rfl, rfl, rfl, by simp [World.setCell], fun k _ hn => Below.heap_setCell _ _ _ _ hn⟩ (fun i hi e => by subst e; exact hp hi)
theorem Fr.grown {S : Nat → Prop} {a b c : World} {row : Option Nat} (h : Fr S a b) (hg : b.grownBy c row) (hr : ∀ k, row = some k → k < a.heap.size → S k) : Fr S a c :=
  h.trans (T := fun k => row = some k) ⟨hg.os, hg.tape, hg.output, hg.size, fun k hk hn => hg.block k hk (fun e => hn e.symm)⟩ (fun i hi e => hr i e hi)
theorem Fr.of_below {a b : World} (h : Below a.heap.size a b) (S : Nat → Prop) : Fr S a b := ⟨h.os, h.tape, h.output, h.size, fun k hk _ => h.block k hk⟩
theorem Fr.below {S : Nat → Prop} {a b : World} (h : Fr S a b) {B : Nat} (hB : B ≤ a.heap.size) (hs : ∀ k, k < B → ¬ S k) : Below B a b :=
  ⟨h.os, h.tape, h.output, h.size, fun k hk => h.block k (by omega) (hs k hk)⟩


/-- A block of four cells. -/
theorem cell_of_four {w : World} {b : Nat} {x y z u : Value} {t : TypeId} (h : w.heap[b]? = some (.cells #[x, y, z, u] t (0, 0))) :
    w.cell? ⟨b, 0, none⟩ = some x ∧ w.cell? ⟨b, 1, none⟩ = some y ∧ w.cell? ⟨b, 2, none⟩ = some z ∧ w.cell? ⟨b, 3, none⟩ = some u ∧ (∀ j, w.frozen? ⟨b, j, none⟩ = false) := by
  refine ⟨?_, ?_, ?_, ?_, fun j => ?_⟩ <;> simp [World.cell?, World.frozen?, h]

/-- Words as cells. -/
def wordCells (l : List Nat) : List Value := l.map fun (x : Nat) => Value.int .u64 x
theorem length_wordCells (l : List Nat) : (wordCells l).length = l.length := by simp [wordCells]
theorem wordCells_get (l : List Nat) (j : Nat) : (wordCells l)[j]? = l[j]?.map fun (x : Nat) => Value.int .u64 x := by simp [wordCells]
theorem wordCells_set (l : List Nat) (j x : Nat) : (wordCells l).set j (Value.int .u64 (x : Int)) = wordCells (l.set j x) := by simp [wordCells, List.map_set]
theorem wordCells_append (a b : List Nat) : wordCells (a ++ b) = wordCells a ++ wordCells b := by simp [wordCells]
theorem wordCells_take (l : List Nat) (k : Nat) : (wordCells l).take k = wordCells (l.take k) := by simp [wordCells, List.map_take]
theorem wordCells_one (l : List Nat) : ∀ u ∈ wordCells l, u.oneCell' = true := by
  intro u hu
  simp only [wordCells, List.mem_map] at hu
  obtain ⟨x, _, rfl⟩ := hu
  rfl

/-- A map: its block b, the block g of its words, its size, its pixels. -/
structure MapAt (w : World) (b g cap W H : Nat) (P : Nat → Nat → Bool) : Prop where
  blk : w.heap[b]? = some (.cells #[.int .i64 W, .int .i64 H, .int .i64 (stride W : Nat), .slice (some ⟨g, 0, none⟩) (H * stride W) cap] 0 (0, 0))
  own : w.ownsRow 0 23 1 (.slice (some ⟨g, 0, none⟩) (H * stride W) cap) (H * stride W) (wordCells (render W H P))
  wpos : 1 ≤ W
  hpos : 1 ≤ H
  area : W * H ≤ 1048576

theorem row_kept {w w' : World} {base e size n : Nat} {v : Value} {xs : List Value} {S : Nat → Prop} (h : w.ownsRow base e size v n xs) (f : Fr S w w') (h2 : ∀ k, v.ownBlock = some k → ¬ S k) : w'.ownsRow base e size v n xs := by
  refine ⟨h.1, ?_⟩
  rcases h.2 with hn | ⟨g, cap, cur, rfl, hb, hgg, rest⟩
  · exact Or.inl hn
  · refine Or.inr ⟨g, cap, cur, rfl, hb, ?_, rest⟩
    rw [f.block g (lt_of_block hgg) (h2 g rfl)]
    exact hgg
theorem MapAt.lt {w : World} {b g cap W H : Nat} {P : Nat → Nat → Bool} (h : MapAt w b g cap W H P) : b < w.heap.size := lt_of_block h.blk
theorem MapAt.glt {w : World} {b g cap W H : Nat} {P : Nat → Nat → Bool} (h : MapAt w b g cap W H P) : g < w.heap.size := (h.own.lt g rfl).2
theorem MapAt.ne {w : World} {b g cap W H : Nat} {P : Nat → Nat → Bool} (h : MapAt w b g cap W H P) : g ≠ b := by
  intro e
  subst e
  rcases h.own.2 with ⟨e, _⟩ | ⟨g', cap', cur, e, _, hg, _⟩
  · cases e
  · simp only [Value.slice.injEq, Option.some.injEq, Addr.mk.injEq] at e
    obtain ⟨⟨rfl, _⟩, _⟩ := e
    rw [h.blk] at hg
    simp at hg
theorem MapAt.kept {w w' : World} {b g cap W H : Nat} {P : Nat → Nat → Bool} {S : Nat → Prop} (h : MapAt w b g cap W H P) (f : Fr S w w') (h1 : ¬ S b) (h2 : ¬ S g) : MapAt w' b g cap W H P :=
  ⟨by rw [f.block b h.lt h1]; exact h.blk, row_kept h.own f (fun k hk => by simp [Value.ownBlock] at hk; subst hk; exact h2), h.wpos, h.hpos, h.area⟩
theorem MapAt.drewN {w : World} {b g cap W H : Nat} {P : Nat → Nat → Bool} (h : MapAt w b g cap W H P) (n : Nat) : MapAt (w.drewN n) b g cap W H P :=
  h.kept (S := fun _ => False) ((Fr.refl _ _).drewN n) (fun hh => hh) (fun hh => hh)
theorem MapAt.pix {w : World} {b g cap W H : Nat} {P Q : Nat → Nat → Bool} (h : MapAt w b g cap W H P) (e : ∀ x y, x < W → y < H → P x y = Q x y) : MapAt w b g cap W H Q :=
  ⟨h.blk, by rw [← render_congr e]; exact h.own, h.wpos, h.hpos, h.area⟩
theorem MapAt.words_le {w : World} {b g cap W H : Nat} {P : Nat → Nat → Bool} (h : MapAt w b g cap W H P) : H * stride W ≤ 1048576 := by
  have h1 := h.wpos
  have h2 := h.area
  refine Nat.le_trans (Nat.mul_le_mul_left H (m := W) ?_) (by rw [Nat.mul_comm]; exact h2)
  unfold stride; omega
theorem MapAt.word {w : World} {b g cap W H : Nat} {P : Nat → Nat → Bool} (h : MapAt w b g cap W H P) {y j : Nat} (hy : y < H) (hj : j < stride W) : w.cell? ⟨g, y * stride W + j, none⟩ = some (.int .u64 (wd W P y j : Nat)) := by
  rw [h.own.cellAt _ (by have := at_lt hy hj; omega), wordCells_get, render_get P hy hj]; rfl
/-- A word of a map is written. -/
theorem MapAt.put {w : World} {b g cap W H : Nat} {P Q : Nat → Nat → Bool} (h : MapAt w b g cap W H P) {y j x : Nat} (hy : y < H) (hj : j < stride W) (hx : x < 18446744073709551616)
    (hw : ∀ k, k < 64 → x.testBit (63 - k) = (decide (64 * j + k < W) && Q (64 * j + k) y)) (ho : ∀ a b, a < W → b < H → ¬ (b = y ∧ a / 64 = j) → Q a b = P a b) :
    MapAt (w.setCell ⟨g, y * stride W + j, none⟩ (.int .u64 (x : Int))) b g cap W H Q := by
  refine ⟨?_, ?_, h.wpos, h.hpos, h.area⟩
  · rw [Below.heap_setCell _ _ _ _ (by exact fun e => h.ne e.symm)]; exact h.blk
  · have := (h.own.stored (y * stride W + j) (.int .u64 (x : Int))).1
    rw [wordCells_set, render_set hy hj hx hw ho] at this
    exact this

end Go.Proofs.Ytodgdbbhllejkaa

/- Small functions: sizes, strides, rows, masks. -/
namespace Go.Proofs.Ytodgdbbhllejkaa
open Go.RowKit

set_option maxRecDepth 100000 in
set_option maxHeartbeats 1000000 in
theorem strideOf_any (W : Nat) (w : World) (h : W ≤ 1048576) :
    Calls Try.prog 55 #[.int .i64 W] w fun e w' => e = .returned (.int .i64 (stride W : Nat)) ∧ w' = w := by
  go_enter Try.func55, Try.ntmps55
  go_wp2
  go_ret
  exact ⟨by simp [stride]; omega, rfl⟩

set_option maxRecDepth 100000 in
set_option maxHeartbeats 1000000 in
theorem words_any (W : Nat) (w : World) (h : W ≤ 1048576) :
    Calls Try.prog 43 #[.int .i64 W] w fun e w' => e = .returned (.int .i64 (stride W : Nat)) ∧ w' = w := by
  go_enter Try.func43, Try.ntmps43
  go_wp2
  go_ret
  exact ⟨by simp [stride], rfl⟩

def sizeOK (x y : Int) : Bool := decide (1 ≤ x ∧ 1 ≤ y ∧ x * y ≤ 1048576)

theorem le_div_iff (x y : Int) (hy : 1 ≤ y) : (x ≤ 1048576 / y) ↔ x * y ≤ 1048576 := Int.le_ediv_iff_mul_le (by omega)
theorem sizeOK_of (x y : Int) (h : 1 ≤ x) (hy : 1 ≤ y) : decide (x ≤ 1048576 / y) = sizeOK x y := by
  unfold sizeOK
  rw [decide_eq_decide, le_div_iff x y hy]
  exact ⟨fun h1 => ⟨h, hy, h1⟩, fun h1 => h1.2.2⟩

set_option maxRecDepth 100000 in
set_option maxHeartbeats 1000000 in
theorem isSize_any (x y : Int) (w : World) (hx : -9223372036854775808 ≤ x ∧ x ≤ 9223372036854775807) (hy : -9223372036854775808 ≤ y ∧ y ≤ 9223372036854775807) :
    Calls Try.prog 54 #[.int .i64 x, .int .i64 y] w fun e w' => e = .returned (.bool (sizeOK x y)) ∧ w' = w := by
  go_enter Try.func54, Try.ntmps54
  by_cases h0 : 1 ≤ x
  · by_cases h1 : 1 ≤ y
    · go_wp2
      go_ret
      exact ⟨by rw [← sizeOK_of x y h0 h1]; rfl, rfl⟩
    · go_wp2
      go_ret
      exact ⟨by simp [sizeOK]; omega, rfl⟩
  · go_wp2
    go_ret
    exact ⟨by simp [sizeOK]; omega, rfl⟩

end Go.Proofs.Ytodgdbbhllejkaa

/- Small functions, more: spans, masks, gaps, the count of a word. -/
namespace Go.Proofs.Ytodgdbbhllejkaa
open Go.RowKit

def fstW (to n : Nat) : Nat := if n = 0 then 0 else to / 64
def cntW (to n : Nat) : Nat := if n = 0 then 0 else (to + n - 1) / 64 - to / 64 + 1

theorem wrapu64 (x : Int) : IntKind.u64.wrap x = x % 18446744073709551616 := by
  simp [IntKind.wrap, IntKind.signed, IntKind.bits]

theorem all_shr (a j : Nat) : (18446744073709551615 / 2 ^ a).testBit j = decide (j + a < 64) := by
  rw [Nat.testBit_div_two_pow, show (18446744073709551615 : Nat) = 2 ^ 64 - 1 from rfl, Nat.testBit_two_pow_sub_one]
theorem all_shl (b j : Nat) : (18446744073709551615 * 2 ^ b % 18446744073709551616).testBit j = (decide (j < 64) && decide (b ≤ j)) := by
  rw [show (18446744073709551616 : Nat) = 2 ^ 64 from rfl, Nat.testBit_mod_two_pow, Nat.testBit_mul_two_pow, show (18446744073709551615 : Nat) = 2 ^ 64 - 1 from rfl, Nat.testBit_two_pow_sub_one]
  by_cases h1 : j < 64 <;> by_cases h2 : b ≤ j <;> simp [h1, h2]
  omega
theorem cast_div_pow (c a : Nat) : (c : Int) / 2 ^ a = ((c / 2 ^ a : Nat) : Int) := by push_cast; rfl
theorem cast_mul_pow (c b m : Nat) : (c : Int) * 2 ^ b % (m : Int) = ((c * 2 ^ b % m : Nat) : Int) := by push_cast; rfl
theorem mask_num (a b : Nat) (_hb : b < 64) : bits .and .u64 ((18446744073709551615 : Int) / 2 ^ a) (IntKind.u64.wrap (18446744073709551615 * 2 ^ b)) = ((wordOf fun i => decide (a ≤ i ∧ i + b < 64) : Nat) : Int) := by
  have h1 : (18446744073709551615 : Int) / 2 ^ a = ((18446744073709551615 / 2 ^ a : Nat) : Int) := cast_div_pow 18446744073709551615 a
  have h2 : IntKind.u64.wrap (18446744073709551615 * 2 ^ b) = ((18446744073709551615 * 2 ^ b % 18446744073709551616 : Nat) : Int) := by rw [wrapu64]; exact cast_mul_pow 18446744073709551615 b 18446744073709551616
  have l1 : 18446744073709551615 / 2 ^ a < 18446744073709551616 := Nat.lt_of_le_of_lt (Nat.div_le_self _ _) (by omega)
  have l2 : 18446744073709551615 * 2 ^ b % 18446744073709551616 < 18446744073709551616 := Nat.mod_lt _ (by omega)
  rw [h1, h2, u64_and_nat _ _ l1 l2]
  congr 1
  refine word_eq (Nat.lt_of_le_of_lt Nat.and_le_left l1) ?_
  intro k hk
  rw [Nat.testBit_and, all_shr, all_shl]
  by_cases h3 : a ≤ k <;> by_cases h4 : k + b < 64 <;> simp [h3, h4] <;> omega
theorem mask_num0 (b : Nat) (hb : b < 64) : bits .and .u64 18446744073709551615 (IntKind.u64.wrap (18446744073709551615 * 2 ^ b)) = ((wordOf fun i => decide (0 ≤ i ∧ i + b < 64) : Nat) : Int) := by
  rw [← mask_num 0 b hb]; simp
theorem mask_num1 (a : Nat) : bits .and .u64 ((18446744073709551615 : Int) / 2 ^ a) 18446744073709551615 = ((wordOf fun i => decide (a ≤ i ∧ i + 0 < 64) : Nat) : Int) := by
  rw [← mask_num a 0 (by omega)]; rw [show IntKind.u64.wrap (18446744073709551615 * 2 ^ 0) = 18446744073709551615 from by decide]
theorem mask_num2 : bits .and .u64 18446744073709551615 18446744073709551615 = ((wordOf fun i => decide (0 ≤ i ∧ i + 0 < 64) : Nat) : Int) := by
  rw [← mask_num1 0]; simp
theorem pad_num (p : Nat) (h : p < 64) : IntKind.u64.wrap (IntKind.u64.wrap (2 ^ p) - 1) = ((2 ^ p - 1 : Nat) : Int) := by
  have h1 : (2 : Nat) ^ p < 2 ^ 64 := Nat.pow_lt_pow_right (by omega) h
  have h2 : 0 < (2 : Nat) ^ p := Nat.two_pow_pos p
  have h3 : (2 : Int) ^ p = ((2 ^ p : Nat) : Int) := by push_cast; rfl
  rw [wrapu64, wrapu64, h3]
  generalize (2 : Nat) ^ p = X at *
  omega

set_option maxRecDepth 100000 in
set_option maxHeartbeats 1000000 in
theorem padOf_any (W : Nat) (w : World) (h : W ≤ 1048576) (h0 : 1 ≤ W) :
    Calls Try.prog 56 #[.int .i64 W] w fun e w' => e = .returned (.int .u64 (2 ^ (64 * stride W - W) - 1 : Nat)) ∧ w' = w := by
  go_enter Try.func56, Try.ntmps56
  go_wp2_with fail
  refine (strideOf_any W _ h).mono ?_
  rintro e w1 ⟨rfl, rfl⟩
  have hs1 : stride W * 64 < W + 64 := by unfold stride; omega
  have hs2 : W ≤ stride W * 64 := by unfold stride; omega
  go_wp2
  go_ret
  refine ⟨?_, rfl⟩
  rw [show 64 * stride W - W = stride W * 64 - W from by omega, ← pad_num _ (by omega)]
  rfl

end Go.Proofs.Ytodgdbbhllejkaa
