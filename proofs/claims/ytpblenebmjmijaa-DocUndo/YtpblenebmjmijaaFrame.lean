/- What stays of memory where some blocks are written: 'Fr S w w''; a map's blocks as a raster. -/
import Derived.WalkKit
import Derived.WalkSpells
import Derived.WalkLawsBesides
import Derived.Test.YtpblenebmjmijaaPix
namespace Go.Proofs.Ytpblenebmjmijaa
open Go.RowKit

/-- All blocks that there were, but for those of S, are as they were. -/
structure Fr (S : Nat → Prop) (w w' : World) : Prop where
  os : w'.os = w.os
  tape : w'.tape = w.tape
  output : w'.output = w.output
  size : w.heap.size ≤ w'.heap.size
  block : ∀ k, k < w.heap.size → ¬ S k → w'.heap[k]? = w.heap[k]?

theorem Fr.refl (S : Nat → Prop) (w : World) : Fr S w w := ⟨rfl, rfl, rfl, Nat.le_refl _, fun _ _ _ => rfl⟩
theorem Fr.trans {S T : Nat → Prop} {a b c : World} (h : Fr S a b) (k : Fr T b c) (hs : ∀ i, i < a.heap.size → T i → S i) : Fr S a c :=
  ⟨k.os.trans h.os, k.tape.trans h.tape, k.output.trans h.output, Nat.le_trans h.size k.size, fun i hi hn => (k.block i (Nat.lt_of_lt_of_le hi h.size) (fun ht => hn (hs i hi ht))).trans (h.block i hi hn)⟩
theorem Fr.mono {S T : Nat → Prop} {a b : World} (h : Fr S a b) (hs : ∀ i, i < a.heap.size → S i → T i) : Fr T a b :=
  ⟨h.os, h.tape, h.output, h.size, fun i hi hn => h.block i hi (fun hh => hn (hs i hi hh))⟩
theorem Fr.drew {S : Nat → Prop} {a b : World} (h : Fr S a b) : Fr S a b.drew := ⟨h.os, h.tape, h.output, h.size, h.block⟩
theorem Fr.drewN {S : Nat → Prop} {a b : World} (h : Fr S a b) (n : Nat) : Fr S a (b.drewN n) := ⟨h.os, h.tape, h.output, h.size, h.block⟩
theorem Fr.alloc {S : Nat → Prop} {a b : World} (h : Fr S a b) (o : Obj) : Fr S a (b.alloc o) :=
  h.trans (T := fun _ => False) ⟨rfl, rfl, rfl, by simp, fun k hk _ => Below.heap_alloc _ _ _ hk⟩ (fun _ _ hh => hh.elim)
theorem Fr.setCell {S : Nat → Prop} {a b : World} (h : Fr S a b) {p : Addr} (hp : p.block < a.heap.size → S p.block) (u : Value) : Fr S a (b.setCell p u) :=
  h.trans (T := fun k => k = p.block) ⟨rfl, rfl, rfl, by simp [World.setCell], fun k _ hn => Below.heap_setCell _ _ _ _ hn⟩ (fun i hi e => by subst e; exact hp hi)
theorem Fr.grown {S : Nat → Prop} {a b c : World} {row : Option Nat} (h : Fr S a b) (hg : b.grownBy c row) (hr : ∀ k, row = some k → k < a.heap.size → S k) : Fr S a c :=
  h.trans (T := fun k => row = some k) ⟨hg.os, hg.tape, hg.output, hg.size, fun k hk hn => hg.block k hk (fun e => hn e.symm)⟩ (fun i hi e => hr i e hi)
theorem Fr.of_below {a b : World} (h : Below a.heap.size a b) (S : Nat → Prop) : Fr S a b := ⟨h.os, h.tape, h.output, h.size, fun k hk _ => h.block k hk⟩
theorem Fr.below {S : Nat → Prop} {a b : World} (h : Fr S a b) {B : Nat} (hB : B ≤ a.heap.size) (hs : ∀ k, k < B → ¬ S k) : Below B a b :=
  ⟨h.os, h.tape, h.output, h.size, fun k hk => h.block k (by omega) (hs k hk)⟩


/-- A block of four cells. -/
theorem cell_of_four {w : World} {b : Nat} {x y z u : Value} {t : TypeId} (h : w.heap[b]? = some (.cells #[x, y, z, u] t (0, 0))) :
    w.cell? ⟨b, 0, none⟩ = some x ∧ w.cell? ⟨b, 1, none⟩ = some y ∧ w.cell? ⟨b, 2, none⟩ = some z ∧ w.cell? ⟨b, 3, none⟩ = some u ∧ (∀ j, w.frozen? ⟨b, j, none⟩ = false) := by
  refine ⟨?_, ?_, ?_, ?_, fun j => ?_⟩ <;> simp [World.cell?, World.frozen?, h]

/-- Words as cells. -/
def wordCells (l : List Nat) : List Value := l.map fun (x : Nat) => Value.int .u64 x
theorem length_wordCells (l : List Nat) : (wordCells l).length = l.length := by simp [wordCells]
theorem wordCells_get (l : List Nat) (j : Nat) : (wordCells l)[j]? = l[j]?.map fun (x : Nat) => Value.int .u64 x := by simp [wordCells]
theorem wordCells_set (l : List Nat) (j x : Nat) : (wordCells l).set j (Value.int .u64 (x : Int)) = wordCells (l.set j x) := by simp [wordCells, List.map_set]
theorem wordCells_append (a b : List Nat) : wordCells (a ++ b) = wordCells a ++ wordCells b := by simp [wordCells]
theorem wordCells_take (l : List Nat) (k : Nat) : (wordCells l).take k = wordCells (l.take k) := by simp [wordCells, List.map_take]
theorem wordCells_one (l : List Nat) : ∀ u ∈ wordCells l, u.oneCell' = true := by
  intro u hu
  simp only [wordCells, List.mem_map] at hu
  obtain ⟨x, _, rfl⟩ := hu
  rfl

/-- A map: its block b, the block g of its words, its size, its pixels. -/
structure MapAt (w : World) (b g cap W H : Nat) (P : Nat → Nat → Bool) : Prop where
  blk : w.heap[b]? = some (.cells #[.int .i64 W, .int .i64 H, .int .i64 (stride W : Nat), .slice (some ⟨g, 0, none⟩) (H * stride W) cap] 90 (0, 0))
  own : w.ownsRow 0 32 1 (.slice (some ⟨g, 0, none⟩) (H * stride W) cap) (H * stride W) (wordCells (render W H P))
  wpos : 1 ≤ W
  hpos : 1 ≤ H
  area : W * H ≤ 1048576

theorem row_kept {w w' : World} {base e size n : Nat} {v : Value} {xs : List Value} {S : Nat → Prop} (h : w.ownsRow base e size v n xs) (f : Fr S w w') (h2 : ∀ k, v.ownBlock = some k → ¬ S k) : w'.ownsRow base e size v n xs := by
  refine ⟨h.1, ?_⟩
  rcases h.2 with hn | ⟨g, cap, cur, rfl, hb, hgg, rest⟩
  · exact Or.inl hn
  · refine Or.inr ⟨g, cap, cur, rfl, hb, ?_, rest⟩
    rw [f.block g (lt_of_block hgg) (h2 g rfl)]
    exact hgg
theorem MapAt.lt {w : World} {b g cap W H : Nat} {P : Nat → Nat → Bool} (h : MapAt w b g cap W H P) : b < w.heap.size := lt_of_block h.blk
theorem MapAt.glt {w : World} {b g cap W H : Nat} {P : Nat → Nat → Bool} (h : MapAt w b g cap W H P) : g < w.heap.size := (h.own.lt g rfl).2
theorem MapAt.ne {w : World} {b g cap W H : Nat} {P : Nat → Nat → Bool} (h : MapAt w b g cap W H P) : g ≠ b := by
  intro e
  subst e
  rcases h.own.2 with ⟨e, _⟩ | ⟨g', cap', cur, e, _, hg, _⟩
  · cases e
  · simp only [Value.slice.injEq, Option.some.injEq, Addr.mk.injEq] at e
    obtain ⟨⟨rfl, _⟩, _⟩ := e
    rw [h.blk] at hg
    simp at hg
theorem MapAt.kept {w w' : World} {b g cap W H : Nat} {P : Nat → Nat → Bool} {S : Nat → Prop} (h : MapAt w b g cap W H P) (f : Fr S w w') (h1 : ¬ S b) (h2 : ¬ S g) : MapAt w' b g cap W H P :=
  ⟨by rw [f.block b h.lt h1]; exact h.blk, row_kept h.own f (fun k hk => by simp [Value.ownBlock] at hk; subst hk; exact h2), h.wpos, h.hpos, h.area⟩
theorem MapAt.drewN {w : World} {b g cap W H : Nat} {P : Nat → Nat → Bool} (h : MapAt w b g cap W H P) (n : Nat) : MapAt (w.drewN n) b g cap W H P :=
  h.kept (S := fun _ => False) ((Fr.refl _ _).drewN n) (fun hh => hh) (fun hh => hh)
theorem MapAt.pix {w : World} {b g cap W H : Nat} {P Q : Nat → Nat → Bool} (h : MapAt w b g cap W H P) (e : ∀ x y, x < W → y < H → P x y = Q x y) : MapAt w b g cap W H Q :=
  ⟨h.blk, by rw [← render_congr e]; exact h.own, h.wpos, h.hpos, h.area⟩
theorem MapAt.words_le {w : World} {b g cap W H : Nat} {P : Nat → Nat → Bool} (h : MapAt w b g cap W H P) : H * stride W ≤ 1048576 := by
  have h1 := h.wpos
  have h2 := h.area
  refine Nat.le_trans (Nat.mul_le_mul_left H (m := W) ?_) (by rw [Nat.mul_comm]; exact h2)
  unfold stride; omega
theorem MapAt.word {w : World} {b g cap W H : Nat} {P : Nat → Nat → Bool} (h : MapAt w b g cap W H P) {y j : Nat} (hy : y < H) (hj : j < stride W) : w.cell? ⟨g, y * stride W + j, none⟩ = some (.int .u64 (wd W P y j : Nat)) := by
  rw [h.own.cellAt _ (by have := at_lt hy hj; omega), wordCells_get, render_get P hy hj]; rfl
/-- A word of a map is written. -/
theorem MapAt.put {w : World} {b g cap W H : Nat} {P Q : Nat → Nat → Bool} (h : MapAt w b g cap W H P) {y j x : Nat} (hy : y < H) (hj : j < stride W) (hx : x < 18446744073709551616)
    (hw : ∀ k, k < 64 → x.testBit (63 - k) = (decide (64 * j + k < W) && Q (64 * j + k) y)) (ho : ∀ a b, a < W → b < H → ¬ (b = y ∧ a / 64 = j) → Q a b = P a b) :
    MapAt (w.setCell ⟨g, y * stride W + j, none⟩ (.int .u64 (x : Int))) b g cap W H Q := by
  refine ⟨?_, ?_, h.wpos, h.hpos, h.area⟩
  · rw [Below.heap_setCell _ _ _ _ (by exact fun e => h.ne e.symm)]; exact h.blk
  · have := (h.own.stored (y * stride W + j) (.int .u64 (x : Int))).1
    rw [wordCells_set, render_set hy hj hx hw ho] at this
    exact this

end Go.Proofs.Ytpblenebmjmijaa
