/- 'States'. -/
import Derived.Test.YtkggdnkmaldmlabKNew
import Derived.BigQuiet
import Derived.Test.YtkggdnkmaldmlabK2
import Derived.Test.YtkggdnkmaldmlabKGet
namespace Go.Proofs.Ytkggdnkmaldmlab
open Go.RowKit

theorem take_set_states (x : List Nat) (k : Nat) (hk : k < x.length) : (x.take k ++ List.replicate (x.length - k) 0).set k (x[k]?.getD 0) = x.take (k + 1) ++ List.replicate (x.length - (k + 1)) 0 := by
  apply List.ext_getElem?
  intro i
  rw [List.getElem?_set]
  split
  · rename_i e; subst e
    rw [if_pos (by simp; omega), List.getElem?_append_left (by simp; omega), List.getElem?_take_of_lt (by omega), List.getElem?_eq_getElem hk]; rfl
  · rename_i e
    by_cases hi : i < k
    · rw [List.getElem?_append_left (by simp; omega), List.getElem?_append_left (by simp; omega), List.getElem?_take_of_lt hi, List.getElem?_take_of_lt (by omega)]
    · rw [List.getElem?_append_right (by simp; omega), List.getElem?_append_right (by simp; omega), List.getElem?_replicate, List.getElem?_replicate]
      simp only [List.length_take]
      by_cases h2 : i < x.length
      · rw [if_pos (by omega), if_pos (by omega)]
      · rw [if_neg (by omega), if_neg (by omega)]

end Go.Proofs.Ytkggdnkmaldmlab

/- 'Eq' of two slices of bytes. -/
namespace Go.Proofs.Ytkggdnkmaldmlab
open Go.RowKit

theorem SeenAt.kept {w w' : World} {v : Value} {l : List Nat} {S : Nat → Prop} (h : SeenAt w v l) (f : Fr S w w') (hs : ∀ k, v.ownBlock = some k → ¬ S k) : SeenAt w' v l := by
  obtain ⟨ao, cap, rfl, hl, hc⟩ := h
  refine ⟨ao, cap, rfl, hl, fun hne => ?_⟩
  obtain ⟨b, off, rfl, hcc⟩ := hc hne
  exact ⟨b, off, rfl, fun j hj => f.cell (hcc j hj) (hs b rfl)⟩
theorem SeenAt.drewN {w : World} {v : Value} {l : List Nat} (h : SeenAt w v l) (q : Nat) : SeenAt (w.drewN q) v l := h
theorem SeenAt.of_row {w : World} {v : Value} {l : List Nat} (h : w.ownsRow 0 5 1 v l.length (byteCells l)) (hl : l.length ≤ 140737488355328) : SeenAt w v l := by
  rcases h.2 with ⟨rfl, e⟩ | ⟨g, cap, cur, rfl, _, hg, hc, hm, _, ht⟩
  · exact ⟨none, 0, by rw [e], hl, fun hn => absurd (List.eq_nil_of_length_eq_zero e) hn⟩
  · refine ⟨_, cap, rfl, hl, fun _ => ⟨g, 0, rfl, fun j hj => ?_⟩⟩
    rw [Nat.zero_add, h.cellAt j (by omega), byteCells_get, List.getElem?_eq_getElem hj]
    rfl

end Go.Proofs.Ytkggdnkmaldmlab


/- 'wakes'. -/
namespace Go.Proofs.Ytkggdnkmaldmlab
open Go.RowKit

/-- Steps of a coder whose blocks are new. -/
theorem CStep.fresh {w w1 w2 : World} {bc gc gb gb' : Nat} {T : Nat → Prop} (f : Fr T w w1) (h : CStep bc gc gb gb' w1 w2) (s : w.heap.size ≤ bc ∧ w.heap.size ≤ gc ∧ w.heap.size ≤ gb) : Fr T w w2 ∧ w.heap.size ≤ gb' := by
  have hs := f.size
  refine ⟨f.trans h.fr (fun i hi e => by omega), ?_⟩
  rcases h.row with e | e <;> omega
theorem DStep.fresh {w w1 w2 : World} {bd gc : Nat} {T : Nat → Prop} (f : Fr T w w1) (h : DStep bd gc w1 w2) (s : w.heap.size ≤ bd ∧ w.heap.size ≤ gc) : Fr T w w2 :=
  f.trans h (fun i hi e => by omega)

end Go.Proofs.Ytkggdnkmaldmlab

/- Two coders side by side; decisions that are handed in. -/
namespace Go.Proofs.Ytkggdnkmaldmlab
open Go.RowKit

/-- A coder's blocks are new, and apart from another's. -/
structure Two (w0 w : World) (b1 g1 c1 l1 m1 : Nat) (o1 : Co) (b2 g2 c2 l2 m2 : Nat) (o2 : Co) : Prop where
  at1 : CoAt w b1 g1 c1 l1 m1 o1
  at2 : CoAt w b2 g2 c2 l2 m2 o2
  fr : Fr (fun _ => False) w0 w
  new1 : w0.heap.size ≤ b1 ∧ w0.heap.size ≤ g1 ∧ w0.heap.size ≤ l1
  new2 : w0.heap.size ≤ b2 ∧ w0.heap.size ≤ g2 ∧ w0.heap.size ≤ l2
  apart : (b1 ≠ b2 ∧ b1 ≠ g2 ∧ b1 ≠ l2) ∧ (g1 ≠ b2 ∧ g1 ≠ g2 ∧ g1 ≠ l2) ∧ (l1 ≠ b2 ∧ l1 ≠ g2 ∧ l1 ≠ l2)

theorem Two.step1 {w0 w w' : World} {b1 g1 c1 l1 m1 l1' m1' : Nat} {o1 o1' : Co} {b2 g2 c2 l2 m2 : Nat} {o2 : Co} (h : Two w0 w b1 g1 c1 l1 m1 o1 b2 g2 c2 l2 m2 o2) (hc : CoAt w' b1 g1 c1 l1' m1' o1') (hs : CStep b1 g1 l1 l1' w w') :
    Two w0 w' b1 g1 c1 l1' m1' o1' b2 g2 c2 l2 m2 o2 := by
  obtain ⟨f, n⟩ := CStep.fresh h.fr hs h.new1
  have a := h.apart
  have x1 := h.at2.lt
  have x2 := h.at2.xlt
  have x3 := h.at2.blt
  refine ⟨hc, h.at2.kept hs.fr (by omega) (by omega) (by omega), f, ⟨h.new1.1, h.new1.2.1, n⟩, h.new2, ⟨a.1, a.2.1, ?_⟩⟩
  rcases hs.row with e | e
  · rw [e]; exact a.2.2
  · omega
theorem Two.swap {w0 w : World} {b1 g1 c1 l1 m1 : Nat} {o1 : Co} {b2 g2 c2 l2 m2 : Nat} {o2 : Co} (h : Two w0 w b1 g1 c1 l1 m1 o1 b2 g2 c2 l2 m2 o2) : Two w0 w b2 g2 c2 l2 m2 o2 b1 g1 c1 l1 m1 o1 := by
  have a := h.apart
  exact ⟨h.at2, h.at1, h.fr, h.new2, h.new1, by omega⟩
theorem Two.step2 {w0 w w' : World} {b1 g1 c1 l1 m1 : Nat} {o1 : Co} {b2 g2 c2 l2 m2 l2' m2' : Nat} {o2 o2' : Co} (h : Two w0 w b1 g1 c1 l1 m1 o1 b2 g2 c2 l2 m2 o2) (hc : CoAt w' b2 g2 c2 l2' m2' o2') (hs : CStep b2 g2 l2 l2' w w') :
    Two w0 w' b1 g1 c1 l1 m1 o1 b2 g2 c2 l2' m2' o2' := (h.swap.step1 hc hs).swap
theorem Two.later {w0 w w' : World} {b1 g1 c1 l1 m1 : Nat} {o1 : Co} {b2 g2 c2 l2 m2 : Nat} {o2 : Co} (h : Two w0 w b1 g1 c1 l1 m1 o1 b2 g2 c2 l2 m2 o2) (f : Fr (fun _ => False) w w') : Two w0 w' b1 g1 c1 l1 m1 o1 b2 g2 c2 l2 m2 o2 :=
  ⟨h.at1.kept f (fun hh => hh) (fun hh => hh) (fun hh => hh), h.at2.kept f (fun hh => hh) (fun hh => hh) (fun hh => hh), h.fr.trans f (fun _ _ hh => hh), h.new1, h.new2, h.apart⟩

/-- Decisions that are handed in: their contexts, their bits. -/
structure DecsAt (w : World) (ao : Option Addr) (n : Nat) (K D : Nat → Int) : Prop where
  lim : n ≤ 9223372036854775807
  at_ : 0 < n → ∃ b off, ao = some ⟨b, off, none⟩ ∧ ∀ j, j < n → w.cell? ⟨b, off + j * 2 + 0, none⟩ = some (.int .i64 (K j)) ∧ w.cell? ⟨b, off + j * 2 + 1, none⟩ = some (.int .i64 (D j))
  bd : ∀ j, j < n → (-9223372036854775808 ≤ K j ∧ K j ≤ 9223372036854775807) ∧ (-9223372036854775808 ≤ D j ∧ D j ≤ 9223372036854775807)

theorem DecsAt.kept {w w' : World} {ao : Option Addr} {n : Nat} {K D : Nat → Int} (h : DecsAt w ao n K D) (f : Fr (fun _ => False) w w') : DecsAt w' ao n K D := by
  refine ⟨h.lim, fun hn => ?_, h.bd⟩
  obtain ⟨b, off, e, hc⟩ := h.at_ hn
  exact ⟨b, off, e, fun j hj => ⟨f.cell (hc j hj).1 (fun hh => hh), f.cell (hc j hj).2 (fun hh => hh)⟩⟩

/-- The lowest bit. -/
def lowBit (d : Int) : Nat := (d % 2).toNat
theorem lowBit_lt (d : Int) : lowBit d < 2 := by unfold lowBit; omega
theorem lowBit_and (d : Int) : bits .and .i64 d 1 = (lowBit d : Int) := by
  show IntKind.i64.wrap ((BitVec.ofInt 64 d &&& BitVec.ofInt 64 1).toNat : Int) = _
  rw [BitVec.toNat_and, BitVec.toNat_ofInt, show (BitVec.ofInt 64 1).toNat = 1 from rfl, Nat.and_one_is_mod, IntKind.wrap_i64]
  unfold lowBit
  omega

theorem placeOf_moved (x : Nat) (n : Nat) (m : Int) (hx : x < n) : placeOf ((x : Int) + n * m) n = x := by
  unfold placeOf
  rw [Int.add_mul_emod_self_left, Int.emod_eq_of_lt (by omega) (by omega)]; rfl
theorem placeOf_nat (x : Nat) (n : Nat) (hx : x < n) : placeOf (x : Int) n = x := by
  unfold placeOf
  rw [Int.emod_eq_of_lt (by omega) (by omega)]; rfl
theorem putP_congr (o : Co) (k k' : Int) (bit : Nat) (h : placeOf k o.x.length = placeOf k' o.x.length) : putP o k bit = putP o k' bit := by
  unfold putP; rw [h]
theorem putP_xlen (o : Co) (k : Int) (bit : Nat) : (putP o k bit).x.length = o.x.length := by simp [putP]

/-- A coder of n contexts behind the first k decisions. -/
def runC (n : Nat) (K : Nat → Int) (D : Nat → Nat) : Nat → Co
  | 0 => newP n
  | k + 1 => putP (runC n K D k) (K k) (D k)
theorem runC_ok {n : Nat} (h1 : 1 ≤ n) (h2 : n ≤ 131072) (K : Nat → Int) (D : Nat → Nat) : ∀ k, k ≤ 16777216 → Ook (runC n K D k) ∧ (runC n K D k).made = k ∧ (runC n K D k).x.length = n
  | 0, _ => ⟨newP_ok h1 h2, rfl, by simp [runC, newP]⟩
  | k + 1, h => by
    obtain ⟨a, b, c⟩ := runC_ok h1 h2 K D k (by omega)
    exact ⟨putP_ok a _ _ (by omega), by show (runC n K D k).made + 1 = _; omega, by show (putP _ _ _).x.length = n; rw [putP_xlen, c]⟩

end Go.Proofs.Ytkggdnkmaldmlab
