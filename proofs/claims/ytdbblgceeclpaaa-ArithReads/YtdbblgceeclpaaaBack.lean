/- The law 'ArithBack'. -/
import Derived.Deep.RegionHeld3
import Derived.Test.YtdbblgceeclpaaaBackQ
namespace Go.Proofs.Ytdbblgceeclpaaa
open Go.RowKit

theorem Try.info56 : (Try.prog.info? 56).map (fun i => (i.zero, i.size, i.bytes)) = some (some (.agg #[.int .i64 0, .int .i64 0]), 2, 16) := by kernel_rfl
theorem Try.info22 : (Try.prog.info? 22).map (fun i => (i.zero, i.size, i.bytes)) = some (some (.slice none 0 0), 1, 24) := by kernel_rfl

/-- Decisions as cells. -/
def decCells (K : Nat → Int) (D : Nat → Nat) : Nat → List Value
  | 0 => []
  | k + 1 => decCells K D k ++ [.int .i64 (K k), .int .i64 (D k : Nat)]
theorem length_decCells (K : Nat → Int) (D : Nat → Nat) : ∀ k, (decCells K D k).length = k * 2
  | 0 => rfl
  | k + 1 => by simp [decCells, length_decCells K D k]; omega
theorem decCells_get (K : Nat → Int) (D : Nat → Nat) : ∀ k j, j < k → (decCells K D k)[j * 2]? = some (.int .i64 (K j)) ∧ (decCells K D k)[j * 2 + 1]? = some (.int .i64 (D j : Nat))
  | 0, j, h => by omega
  | k + 1, j, h => by
    have hl := length_decCells K D k
    unfold decCells
    by_cases hj : j < k
    · rw [List.getElem?_append_left (by omega), List.getElem?_append_left (by omega)]
      exact decCells_get K D k j hj
    · have e : j = k := by omega
      subst e
      rw [List.getElem?_append_right (by omega), List.getElem?_append_right (by omega), hl, Nat.sub_self, show j * 2 + 1 - j * 2 = 1 by omega]
      exact ⟨rfl, rfl⟩
/-- Slices as cells. -/
def stCells (G : Nat → Nat) (n : Nat) : Nat → List Value
  | 0 => []
  | k + 1 => stCells G n k ++ [.slice (some ⟨G k, 0, none⟩) n n]
theorem length_stCells (G : Nat → Nat) (n : Nat) : ∀ k, (stCells G n k).length = k
  | 0 => rfl
  | k + 1 => by simp [stCells, length_stCells G n k]
theorem stCells_get (G : Nat → Nat) (n : Nat) : ∀ k j, j < k → (stCells G n k)[j]? = some (.slice (some ⟨G j, 0, none⟩) n n)
  | 0, j, h => by omega
  | k + 1, j, h => by
    have hl := length_stCells G n k
    unfold stCells
    by_cases hj : j < k
    · rw [List.getElem?_append_left (by omega)]; exact stCells_get G n k j hj
    · have e : j = k := by omega
      subst e
      rw [List.getElem?_append_right (by omega), hl, Nat.sub_self]; rfl
theorem stCells_congr {G G' : Nat → Nat} (n : Nat) : ∀ k, (∀ j, j < k → G j = G' j) → stCells G n k = stCells G' n k
  | 0, _ => rfl
  | k + 1, h => by unfold stCells; rw [stCells_congr n k (fun j hj => h j (by omega)), h k (by omega)]

/-- What the law holds while it codes. -/
structure Bk (w1 wr : World) (n : Nat) (K : Nat → Int) (D : Nat → Nat) (bc gc gb cb : Nat) (vl vs : Value) (G : Nat → Nat) (k m : Nat) (o : Co) : Prop where
  co : CoAt wr bc gc n gb cb o
  fr : Fr (fun _ => False) w1 wr
  new : w1.heap.size ≤ bc ∧ w1.heap.size ≤ gc ∧ w1.heap.size ≤ gb
  lrow : wr.ownsRow 0 56 2 vl k (decCells K D k)
  lnew : ∀ g, vl.ownBlock = some g → w1.heap.size ≤ g
  srow : wr.ownsRow 0 22 1 vs m (stCells G n m)
  snew : ∀ g, vs.ownBlock = some g → w1.heap.size ≤ g
  seen : ∀ i, i < m → wr.ownsRow 0 5 1 (.slice (some ⟨G i, 0, none⟩) n n) n (byteCells (runC n K D (i + 1)).x)
  snw : ∀ i, i < m → w1.heap.size ≤ G i ∧ G i ≠ gb

theorem row_ne {w : World} {b1 b2 e1 e2 s1 s2 n1 n2 g1 g2 : Nat} {v1 v2 : Value} {x1 x2 : List Value} (h1 : w.ownsRow b1 e1 s1 v1 n1 x1) (h2 : w.ownsRow b2 e2 s2 v2 n2 x2) (hv1 : v1.ownBlock = some g1) (hv2 : v2.ownBlock = some g2) (he : e1 ≠ e2) : g1 ≠ g2 := by
  intro e; subst e
  obtain ⟨c1, k1⟩ := row_type2 h1 hv1
  obtain ⟨c2, k2⟩ := row_type2 h2 hv2
  rw [k1] at k2
  simp at k2
  exact he k2.2
theorem row_nb {w : World} {b1 e1 s1 n1 g1 bc : Nat} {v1 : Value} {x1 : List Value} {cs : Array Value} {t : TypeId} (h1 : w.ownsRow b1 e1 s1 v1 n1 x1) (hv1 : v1.ownBlock = some g1) (hb : w.heap[bc]? = some (.cells cs t (0, 0))) (he : e1 ≠ t) : g1 ≠ bc := by
  intro e; subst e
  obtain ⟨c1, k1⟩ := row_type2 h1 hv1
  rw [hb] at k1
  simp at k1
  exact he k1.2.symm

theorem Bk.later {w1 wr w' : World} {n : Nat} {K : Nat → Int} {D : Nat → Nat} {bc gc gb cb : Nat} {vl vs : Value} {G : Nat → Nat} {k m : Nat} {o : Co} (h : Bk w1 wr n K D bc gc gb cb vl vs G k m o) (f : Fr (fun _ => False) wr w') : Bk w1 w' n K D bc gc gb cb vl vs G k m o :=
  ⟨h.co.kept f (fun hh => hh) (fun hh => hh) (fun hh => hh), h.fr.trans f (fun _ _ hh => hh), h.new, row_kept h.lrow f (fun _ _ hh => hh), h.lnew, row_kept h.srow f (fun _ _ hh => hh), h.snew, fun i hi => row_kept1 (h.seen i hi) f (fun hh => hh), h.snw⟩
/-- A put. -/
theorem Bk.put {w1 wr w' : World} {n : Nat} {K : Nat → Int} {D : Nat → Nat} {bc gc gb cb gb' cb' : Nat} {vl vs : Value} {G : Nat → Nat} {k m : Nat} {o o' : Co} (h : Bk w1 wr n K D bc gc gb cb vl vs G k m o) (hc : CoAt w' bc gc n gb' cb' o') (hs : CStep bc gc gb gb' wr w') : Bk w1 w' n K D bc gc gb' cb' vl vs G k m o' := by
  obtain ⟨f, nw⟩ := CStep.fresh h.fr hs h.new
  have hl : ∀ g, vl.ownBlock = some g → ¬ (g = bc ∨ g = gc ∨ g = gb) := by
    intro g hg
    have a := row_nb h.lrow hg h.co.blk (by decide)
    have b := row_ne h.lrow h.co.xs hg rfl (by decide)
    have c := row_ne h.lrow h.co.bs hg rfl (by decide)
    rintro (e | e | e)
    · exact a e
    · exact b e
    · exact c e
  have hv : ∀ g, vs.ownBlock = some g → ¬ (g = bc ∨ g = gc ∨ g = gb) := by
    intro g hg
    have a := row_nb h.srow hg h.co.blk (by decide)
    have b := row_ne h.srow h.co.xs hg rfl (by decide)
    have c := row_ne h.srow h.co.bs hg rfl (by decide)
    rintro (e | e | e)
    · exact a e
    · exact b e
    · exact c e
  refine ⟨hc, f, ⟨h.new.1, h.new.2.1, nw⟩, row_kept h.lrow hs.fr hl, h.lnew, row_kept h.srow hs.fr hv, h.snew, fun i hi => ?_, fun i hi => ?_⟩
  · have a := row_nb (h.seen i hi) rfl h.co.blk (by decide)
    have b := row_ne (h.seen i hi) h.co.xs rfl rfl (by decide)
    have c := (h.snw i hi).2
    exact row_kept1 (h.seen i hi) hs.fr (by
      rintro (e | e | e)
      · exact a e
      · exact b e
      · exact c e)
  · refine ⟨(h.snw i hi).1, ?_⟩
    rcases hs.row with e | e
    · rw [e]; exact (h.snw i hi).2
    · have := ((h.seen i hi).lt (G i) rfl).2
      omega
/-- A decision more. -/
theorem Bk.addL {w1 wr w' : World} {n : Nat} {K : Nat → Int} {D : Nat → Nat} {bc gc gb cb : Nat} {vl vs v' : Value} {G : Nat → Nat} {k m : Nat} {o : Co} (h : Bk w1 wr n K D bc gc gb cb vl vs G k m o) (f : Fr (fun j => vl.ownBlock = some j) wr w') (hr : w'.ownsRow 0 56 2 v' (k + 1) (decCells K D (k + 1))) (hn : ∀ g, v'.ownBlock = some g → w1.heap.size ≤ g) : Bk w1 w' n K D bc gc gb cb v' vs G (k + 1) m o := by
  refine ⟨h.co.kept f ?_ ?_ ?_, h.fr.trans f (fun i hi e => absurd (h.lnew i e) (by omega)), h.new, hr, hn, row_kept h.srow f ?_, h.snew, fun i hi => row_kept1 (h.seen i hi) f ?_, h.snw⟩
  · intro e; exact row_nb h.lrow e h.co.blk (by decide) rfl
  · intro e; exact row_ne h.lrow h.co.xs e rfl (by decide) rfl
  · intro e; exact row_ne h.lrow h.co.bs e rfl (by decide) rfl
  · intro g hg e; exact row_ne h.lrow h.srow e hg (by decide) rfl
  · intro e; exact row_ne h.lrow (h.seen i hi) e rfl (by decide) rfl
/-- States more. -/
theorem Bk.addS {w1 wr w' : World} {n : Nat} {K : Nat → Int} {D : Nat → Nat} {bc gc gb cb : Nat} {vl vs v' : Value} {G G' : Nat → Nat} {k m : Nat} {o : Co} (h : Bk w1 wr n K D bc gc gb cb vl vs G k m o) (f : Fr (fun j => vs.ownBlock = some j) wr w') (hG : ∀ j, j < m → G' j = G j) (hr : w'.ownsRow 0 22 1 v' (m + 1) (stCells G' n (m + 1))) (hn : ∀ g, v'.ownBlock = some g → w1.heap.size ≤ g)
    (hs : wr.ownsRow 0 5 1 (.slice (some ⟨G' m, 0, none⟩) n n) n (byteCells (runC n K D (m + 1)).x)) (hg : w1.heap.size ≤ G' m ∧ G' m ≠ gb) : Bk w1 w' n K D bc gc gb cb vl v' G' k (m + 1) o := by
  refine ⟨h.co.kept f ?_ ?_ ?_, h.fr.trans f (fun i hi e => absurd (h.snew i e) (by omega)), h.new, row_kept h.lrow f ?_, h.lnew, hr, hn, fun i hi => ?_, fun i hi => ?_⟩
  · intro e; exact row_nb h.srow e h.co.blk (by decide) rfl
  · intro e; exact row_ne h.srow h.co.xs e rfl (by decide) rfl
  · intro e; exact row_ne h.srow h.co.bs e rfl (by decide) rfl
  · intro g hg e; exact row_ne h.srow h.lrow e hg (by decide) rfl
  · by_cases hi2 : i < m
    · rw [hG i hi2]
      exact row_kept1 (h.seen i hi2) f (fun e => row_ne h.srow (h.seen i hi2) e rfl (by decide) rfl)
    · have e : i = m := by omega
      subst e
      exact row_kept1 hs f (fun e => row_ne h.srow hs e rfl (by decide) rfl)
  · by_cases hi2 : i < m
    · rw [hG i hi2]; exact h.snw i hi2
    · have e : i = m := by omega
      subst e; exact hg

/-- What is left behind the flush. -/
theorem Bk.flushed {w1 wr w' : World} {n : Nat} {K : Nat → Int} {D : Nat → Nat} {bc gc gb cb gb' : Nat} {vl vs : Value} {G : Nat → Nat} {k m : Nat} {o : Co} (h : Bk w1 wr n K D bc gc gb cb vl vs G k m o) (hs : CStep bc gc gb gb' wr w') :
    w'.ownsRow 0 56 2 vl k (decCells K D k) ∧ w'.ownsRow 0 22 1 vs m (stCells G n m) ∧ (∀ i, i < m → w'.ownsRow 0 5 1 (.slice (some ⟨G i, 0, none⟩) n n) n (byteCells (runC n K D (i + 1)).x)) ∧ Fr (fun _ => False) w1 w' := by
  refine ⟨row_kept h.lrow hs.fr ?_, row_kept h.srow hs.fr ?_, fun i hi => row_kept1 (h.seen i hi) hs.fr ?_, (CStep.fresh h.fr hs h.new).1⟩
  · intro g hg
    rintro (e | e | e)
    · exact row_nb h.lrow hg h.co.blk (by decide) e
    · exact row_ne h.lrow h.co.xs hg rfl (by decide) e
    · exact row_ne h.lrow h.co.bs hg rfl (by decide) e
  · intro g hg
    rintro (e | e | e)
    · exact row_nb h.srow hg h.co.blk (by decide) e
    · exact row_ne h.srow h.co.xs hg rfl (by decide) e
    · exact row_ne h.srow h.co.bs hg rfl (by decide) e
  · rintro (e | e | e)
    · exact row_nb (h.seen i hi) rfl h.co.blk (by decide) e
    · exact row_ne (h.seen i hi) h.co.xs rfl rfl (by decide) e
    · exact (h.snw i hi).2 e

/-- What the law holds while it decodes: all but the decoder's own is older than Z. -/
structure Af (w1 w : World) (n : Nat) (K : Nat → Int) (D : Nat → Nat) (bc gc bd gd : Nat) (vb vl vs : Value) (G : Nat → Nat) (k m Z : Nat) (x B : List Nat) (d : De) : Prop where
  done : DoAt w bc gc n x
  de : DeAt w bd gd n vb B d
  lrow : w.ownsRow 0 56 2 vl k (decCells K D k)
  srow : w.ownsRow 0 22 1 vs m (stCells G n m)
  seen : ∀ i, i < m → w.ownsRow 0 5 1 (.slice (some ⟨G i, 0, none⟩) n n) n (byteCells (runC n K D (i + 1)).x)
  fr : Fr (fun _ => False) w1 w
  old : w1.heap.size ≤ Z ∧ bc < Z ∧ gc < Z ∧ (∀ g, vl.ownBlock = some g → g < Z) ∧ (∀ g, vs.ownBlock = some g → g < Z) ∧ (∀ i, i < m → G i < Z)
  new : Z ≤ bd ∧ Z ≤ gd

theorem Af.later {w1 w w' : World} {n : Nat} {K : Nat → Int} {D : Nat → Nat} {bc gc bd gd : Nat} {vb vl vs : Value} {G : Nat → Nat} {k m Z : Nat} {x B : List Nat} {d : De} (h : Af w1 w n K D bc gc bd gd vb vl vs G k m Z x B d) (f : Fr (fun _ => False) w w') : Af w1 w' n K D bc gc bd gd vb vl vs G k m Z x B d :=
  ⟨h.done.kept f (fun hh => hh) (fun hh => hh), h.de.keptAll f, row_kept h.lrow f (fun _ _ hh => hh), row_kept h.srow f (fun _ _ hh => hh), fun i hi => row_kept1 (h.seen i hi) f (fun hh => hh), h.fr.trans f (fun _ _ hh => hh), h.old, h.new⟩
theorem Af.step {w1 w w' : World} {n : Nat} {K : Nat → Int} {D : Nat → Nat} {bc gc bd gd : Nat} {vb vl vs : Value} {G : Nat → Nat} {k m Z : Nat} {x B : List Nat} {d d' : De} (h : Af w1 w n K D bc gc bd gd vb vl vs G k m Z x B d) (hd : DeAt w' bd gd n vb B d') (f : DStep bd gd w w') : Af w1 w' n K D bc gc bd gd vb vl vs G k m Z x B d' := by
  obtain ⟨o0, o1, o2, o3, o4, o5⟩ := h.old
  obtain ⟨n1, n2⟩ := h.new
  exact ⟨h.done.kept f (by omega) (by omega), hd, row_kept h.lrow f (fun g hg => by have := o3 g hg; omega), row_kept h.srow f (fun g hg => by have := o4 g hg; omega), fun i hi => row_kept1 (h.seen i hi) f (by have := o5 i hi; omega), h.fr.trans f (fun i hi e => by omega), h.old, h.new⟩

end Go.Proofs.Ytdbblgceeclpaaa
