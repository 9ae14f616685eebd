/- What stays of memory where some blocks are written: 'Fr S w w''; a writer's and a reader's blocks as lists of bits. -/
import Derived.WalkKit
import Derived.WalkSpells
import Derived.WalkLawsBesides
import Derived.Test.YtamonbkhpbdojaaDoorBits
namespace Go.Proofs.YtamonbkhpbdojaaDoor
set_option maxRecDepth 100000
open Go.RowKit

/-- All blocks that there were, but for those of S, are as they were. -/
structure Fr (S : Nat → Prop) (w w' : World) : Prop where
  os : w'.os = w.os
  tape : w'.tape = w.tape
  output : w'.output = w.output
  size : w.heap.size ≤ w'.heap.size
  block : ∀ k, k < w.heap.size → ¬ S k → w'.heap[k]? = w.heap[k]?

theorem Fr.refl (S : Nat → Prop) (w : World) : Fr S w w := ⟨rfl, rfl, rfl, Nat.le_refl _, fun _ _ _ => rfl⟩
theorem Fr.trans {S T : Nat → Prop} {a b c : World} (h : Fr S a b) (k : Fr T b c) (hs : ∀ i, i < a.heap.size → T i → S i) : Fr S a c :=
  ⟨k.os.trans h.os, k.tape.trans h.tape, k.output.trans h.output, Nat.le_trans h.size k.size, fun i hi hn => (k.block i (Nat.lt_of_lt_of_le hi h.size) (fun ht => hn (hs i hi ht))).trans (h.block i hi hn)⟩
theorem Fr.mono {S T : Nat → Prop} {a b : World} (h : Fr S a b) (hs : ∀ i, i < a.heap.size → S i → T i) : Fr T a b :=
  ⟨h.os, h.tape, h.output, h.size, fun i hi hn => h.block i hi (fun hh => hn (hs i hi hh))⟩
theorem Fr.drew {S : Nat → Prop} {a b : World} (h : Fr S a b) : Fr S a b.drew := ⟨h.os, h.tape, h.output, h.size, h.block⟩
theorem Fr.drewN {S : Nat → Prop} {a b : World} (h : Fr S a b) (n : Nat) : Fr S a (b.drewN n) := ⟨h.os, h.tape, h.output, h.size, h.block⟩
theorem Fr.alloc {S : Nat → Prop} {a b : World} (h : Fr S a b) (o : Obj) : Fr S a (b.alloc o) :=
  h.trans (T := fun _ => False) ⟨rfl, rfl, rfl, by simp, fun k hk _ => Below.heap_alloc _ _ _ hk⟩ (fun _ _ hh => hh.elim)
theorem Fr.setCell {S : Nat → Prop} {a b : World} (h : Fr S a b) {p : Addr} (hp : p.block < a.heap.size → S p.block) (u : Value) : Fr S a (b.setCell p u) :=
  h.trans (T := fun k => k = p.block) ⟨rfl, rfl, rfl, by simp [World.setCell], fun k _ hn => Below.heap_setCell _ _ _ _ hn⟩ (fun i hi e => by subst e; exact hp hi)
theorem Fr.grown {S : Nat → Prop} {a b c : World} {row : Option Nat} (h : Fr S a b) (hg : b.grownBy c row) (hr : ∀ k, row = some k → k < a.heap.size → S k) : Fr S a c :=
  h.trans (T := fun k => row = some k) ⟨hg.os, hg.tape, hg.output, hg.size, fun k hk hn => hg.block k hk (fun e => hn e.symm)⟩ (fun i hi e => hr i e hi)
theorem Fr.of_below {a b : World} (h : Below a.heap.size a b) (S : Nat → Prop) : Fr S a b := ⟨h.os, h.tape, h.output, h.size, fun k hk _ => h.block k hk⟩
theorem Fr.below {S : Nat → Prop} {a b : World} (h : Fr S a b) {B : Nat} (hB : B ≤ a.heap.size) (hs : ∀ k, k < B → ¬ S k) : Below B a b :=
  ⟨h.os, h.tape, h.output, h.size, fun k hk => h.block k (by omega) (hs k hk)⟩

/-- A block of three cells, whatever its type. -/
theorem cell_of_three {w : World} {b : Nat} {x y z : Value} {t : TypeId} (h : w.heap[b]? = some (.cells #[x, y, z] t (0, 0))) :
    w.cell? ⟨b, 0, none⟩ = some x ∧ w.cell? ⟨b, 1, none⟩ = some y ∧ w.cell? ⟨b, 2, none⟩ = some z ∧ (∀ j, w.frozen? ⟨b, j, none⟩ = false) := by
  refine ⟨?_, ?_, ?_, fun j => ?_⟩ <;> simp [World.cell?, World.frozen?, h]
theorem three_set1 {w : World} {b : Nat} {x y z u : Value} {t : TypeId} (h : w.heap[b]? = some (.cells #[x, y, z] t (0, 0))) :
    (w.setCell ⟨b, 1, none⟩ u).heap[b]? = some (.cells #[x, u, z] t (0, 0)) := by
  simp [World.setCell, Array.getElem?_modify, h]
theorem three_set2 {w : World} {b : Nat} {x y z u : Value} {t : TypeId} (h : w.heap[b]? = some (.cells #[x, y, z] t (0, 0))) :
    (w.setCell ⟨b, 2, none⟩ u).heap[b]? = some (.cells #[x, y, u] t (0, 0)) := by
  simp [World.setCell, Array.getElem?_modify, h]
theorem cell_of_two {w : World} {b : Nat} {x y : Value} {t : TypeId} (h : w.heap[b]? = some (.cells #[x, y] t (0, 0))) :
    w.cell? ⟨b, 0, none⟩ = some x ∧ w.cell? ⟨b, 1, none⟩ = some y ∧ (∀ j, w.frozen? ⟨b, j, none⟩ = false) := by
  refine ⟨?_, ?_, fun j => ?_⟩ <;> simp [World.cell?, World.frozen?, h]
theorem two_set1 {w : World} {b : Nat} {x y u : Value} {t : TypeId} (h : w.heap[b]? = some (.cells #[x, y] t (0, 0))) :
    (w.setCell ⟨b, 1, none⟩ u).heap[b]? = some (.cells #[x, u] t (0, 0)) := by
  simp [World.setCell, Array.getElem?_modify, h]

/-- Bytes as cells. -/
def byteCells (l : List Nat) : List Value := l.map fun (x : Nat) => Value.int .u8 x
theorem length_byteCells (l : List Nat) : (byteCells l).length = l.length := by simp [byteCells]
theorem byteCells_get (l : List Nat) (j : Nat) : (byteCells l)[j]? = l[j]?.map fun (x : Nat) => Value.int .u8 x := by simp [byteCells]
theorem byteCells_set (l : List Nat) (j x : Nat) : (byteCells l).set j (Value.int .u8 (x : Int)) = byteCells (l.set j x) := by simp [byteCells, List.map_set]
theorem byteCells_append (a b : List Nat) : byteCells (a ++ b) = byteCells a ++ byteCells b := by simp [byteCells]
theorem byteCells_one (l : List Nat) : ∀ u ∈ byteCells l, u.oneCell' = true := by
  intro u hu
  simp only [byteCells, List.mem_map] at hu
  obtain ⟨x, _, rfl⟩ := hu
  rfl

/-- A writer: its block bw, its bytes' slice v, its room in bytes, its bits. -/
structure WAt (w : World) (bw : Nat) (v : Value) (most : Nat) (bs : List Bool) : Prop where
  blk : w.heap[bw]? = some (.cells #[.int .i64 (8 * (most : Int)), .int .i64 (bs.length : Int), v] 93 (0, 0))
  own : w.ownsRow 0 5 1 v ((bs.length + 7) / 8) (byteCells (pack bs))
  le : bs.length ≤ 8 * most
  lim : most ≤ 67108864

/-- What a step of the writer may touch: its block, its bytes. The bytes stay where they are, or move to a new block. -/
structure WStep (bw : Nat) (v v' : Value) (w w' : World) : Prop where
  fr : Fr (fun k => k = bw ∨ v.ownBlock = some k) w w'
  row : v'.ownBlock = v.ownBlock ∨ ∀ k, v'.ownBlock = some k → w.heap.size ≤ k

theorem WStep.refl (bw : Nat) (v : Value) (w : World) : WStep bw v v w w := ⟨Fr.refl _ _, Or.inl rfl⟩
theorem WStep.trans {bw : Nat} {v v1 v2 : Value} {w w1 w2 : World} (h : WStep bw v v1 w w1) (k : WStep bw v1 v2 w1 w2) : WStep bw v v2 w w2 := by
  refine ⟨h.fr.trans k.fr ?_, ?_⟩
  · rintro i hi (e | e)
    · exact Or.inl e
    · rcases h.row with r | r
      · exact Or.inr (r ▸ e)
      · have := r i e; omega
  · have hsz := h.fr.size
    rcases k.row with q | q
    · rcases h.row with r | r
      · exact Or.inl (q.trans r)
      · exact Or.inr (fun j hj => r j (q ▸ hj))
    · exact Or.inr (fun j hj => by have := q j hj; omega)

theorem WAt.lt {w : World} {bw : Nat} {v : Value} {most : Nat} {bs : List Bool} (h : WAt w bw v most bs) : bw < w.heap.size := lt_of_block h.blk
theorem WAt.rowlt {w : World} {bw : Nat} {v : Value} {most : Nat} {bs : List Bool} (h : WAt w bw v most bs) : ∀ k, v.ownBlock = some k → k < w.heap.size :=
  fun k hk => (h.own.lt k hk).2
theorem WAt.rowne {w : World} {bw : Nat} {v : Value} {most : Nat} {bs : List Bool} (h : WAt w bw v most bs) : v.ownBlock ≠ some bw := by
  intro e
  rcases h.own.2 with ⟨rfl, _⟩ | ⟨g, cap, cur, rfl, _, hg, _⟩
  · simp [Value.ownBlock] at e
  · simp [Value.ownBlock] at e
    subst e
    rw [h.blk] at hg
    simp at hg

/-- A writer that nothing has touched. -/
theorem WAt.kept {w w' : World} {bw : Nat} {v : Value} {most : Nat} {bs : List Bool} {S : Nat → Prop} (h : WAt w bw v most bs) (f : Fr S w w') (h1 : ¬ S bw) (h2 : ∀ k, v.ownBlock = some k → ¬ S k) : WAt w' bw v most bs := by
  refine ⟨by rw [f.block bw h.lt h1]; exact h.blk, ?_, h.le, h.lim⟩
  refine ⟨h.own.1, ?_⟩
  rcases h.own.2 with hn | ⟨g, cap, cur, rfl, hb, hgg, rest⟩
  · exact Or.inl hn
  · refine Or.inr ⟨g, cap, cur, rfl, hb, ?_, rest⟩
    rw [f.block g (lt_of_block hgg) (h2 g rfl)]
    exact hgg
theorem WAt.drewN {w : World} {bw : Nat} {v : Value} {most : Nat} {bs : List Bool} (h : WAt w bw v most bs) (n : Nat) : WAt (w.drewN n) bw v most bs :=
  h.kept (S := fun _ => False) ((Fr.refl _ _).drewN n) (fun hh => hh) (fun _ _ hh => hh)

theorem WAt.drew {w : World} {bw : Nat} {v : Value} {most : Nat} {bs : List Bool} (h : WAt w bw v most bs) : WAt w.drew bw v most bs := h.drewN 1
theorem WStep.drew {bw : Nat} {v v' : Value} {w w' : World} (h : WStep bw v v' w w') : WStep bw v v' w w'.drew := ⟨h.fr.drew, h.row⟩
theorem WStep.drewN {bw : Nat} {v v' : Value} {w w' : World} (h : WStep bw v v' w w') (n : Nat) : WStep bw v v' w (w'.drewN n) := ⟨h.fr.drewN n, h.row⟩

/-- The slice's form where there is a byte. -/
theorem WAt.form {w : World} {bw : Nat} {v : Value} {most : Nat} {bs : List Bool} (h : WAt w bw v most bs) (hb : 0 < bs.length) :
    ∃ g cap, v = .slice (some ⟨g, 0, none⟩) ((bs.length + 7) / 8) cap ∧ (bs.length + 7) / 8 ≤ cap ∧ cap ≤ maxLen ∧ g ≠ bw := by
  have hne := h.rowne
  rcases h.own.2 with ⟨_, e⟩ | ⟨g, cap, cur, rfl, _, hg, hc, hm, _⟩
  · omega
  · exact ⟨g, cap, rfl, hc, hm, fun e => hne (by simp [Value.ownBlock, e])⟩

theorem or_u8 (a b : Nat) (ha : a < 256) (hb : b < 256) : bits .or .u8 (a : Int) (b : Int) = ((a ||| b : Nat) : Int) := u8_or_nat a b ha hb

end Go.Proofs.YtamonbkhpbdojaaDoor
