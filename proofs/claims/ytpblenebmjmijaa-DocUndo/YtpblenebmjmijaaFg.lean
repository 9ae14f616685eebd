/- A document and the states that it went through. -/
import Derived.Test.YtpblenebmjmijaaFf
namespace Go.Proofs.Ytpblenebmjmijaa
set_option maxRecDepth 100000
open Go.RowKit

/-- The document's blocks and the list's own one. -/
def Aw (d : Nat) (pv sv : Value) (pgs : List PgI) (ob : Option Nat) (k : Nat) : Prop := Av d pv sv pgs k ∨ ob = some k

structure Core (w1 w : World) (d : Nat) (pgs : List PgI) (Pf : Pix3) (pv sv : Value) (ss : List Value) (N : Nat) (sb : Nat → Nat × Pix3) (bl : Nat → Value) (ob : Option Nat) : Prop where
  du : DU w1 w d pgs Pf pv sv ss
  ms : ss.length ≤ N
  mono : ∀ i j, i ≤ j → j ≤ N → (sb i).1 ≤ (sb j).1
  st : ∀ (i : Nat) (v : Value), ss[i]? = some v → HS w d (Aw d pv sv pgs ob) pgs v (sb (N - ss.length + i)).1 (sb (N - ss.length + i)).2 (sb (N - ss.length + i + 1)).1 (sb (N - ss.length + i + 1)).2
  ls : ∀ i, i < N → BL w (Aw d pv sv pgs ob) (bl i) (pgs.take (sb i).1) (sb i).2
  top : sb N = (pgs.length, Pf)
  own : ∀ k, ob = some k → d ≤ k ∧ k < w.heap.size ∧ ¬ Av d pv sv pgs k

theorem Core.ns {w1 w : World} {d : Nat} {pgs : List PgI} {Pf : Pix3} {pv sv : Value} {ss : List Value} {N : Nat} {sb : Nat → Nat × Pix3} {bl : Nat → Value} {ob : Option Nat} (h : Core w1 w d pgs Pf pv sv ss N sb bl ob) (i : Nat) (hi : i ≤ N) : (sb i).1 ≤ pgs.length := by
  have := h.mono i N hi (Nat.le_refl _)
  rw [h.top] at this
  exact this
theorem Aw.lt {w1 w : World} {d : Nat} {pgs : List PgI} {Pf : Pix3} {pv sv : Value} {ss : List Value} {N : Nat} {sb : Nat → Nat × Pix3} {bl : Nat → Value} {ob : Option Nat} (h : Core w1 w d pgs Pf pv sv ss N sb bl ob) (k : Nat) (hk : Aw d pv sv pgs ob k) : k < w.heap.size := by
  rcases hk with hk | hk
  · exact Av.lt h.du k hk
  · exact (h.own k hk).2.1

theorem Core.still {w1 w w' : World} {d : Nat} {pgs : List PgI} {Pf : Pix3} {pv sv : Value} {ss : List Value} {N : Nat} {sb : Nat → Nat × Pix3} {bl : Nat → Value} {ob : Option Nat} (h : Core w1 w d pgs Pf pv sv ss N sb bl ob) (f : Fr (fun _ => False) w w') : Core w1 w' d pgs Pf pv sv ss N sb bl ob :=
  ⟨h.du.still f, h.ms, h.mono, fun i v hv => (h.st i v hv).kept f (fun _ e => e.elim) (fun _ _ e => e) (fun _ _ _ e => e), fun i hi => (h.ls i hi).kept f (fun _ e => e.elim) (fun _ _ e => e), h.top, fun k hk => ⟨(h.own k hk).1, Nat.lt_of_lt_of_le (h.own k hk).2.1 f.size, (h.own k hk).2.2⟩⟩

/-- One more step, and the list of the pages that were. -/
theorem Core.push {w1 w w' : World} {d : Nat} {pgs pgs' r : List PgI} {Pf Pf' : Pix3} {pv sv pv' sv' f wv : Value} {ss : List Value} {N : Nat} {sb : Nat → Nat × Pix3} {bl : Nat → Value} {ob : Option Nat} (h : Core w1 w d pgs Pf pv sv ss N sb bl ob)
    (hd : DU w1 w' d pgs' Pf' pv' sv' (cut ss ++ [f])) (hs : ∀ A' : Nat → Prop, (∀ k, A' k → Av d pv' sv' pgs' k ∨ k < w.heap.size) → HS w' d A' pgs' f pgs.length Pf pgs'.length Pf') (fr : Fr (Av d pv sv pgs) w w') (ha : ∀ k, Av d pv' sv' pgs' k → Av d pv sv pgs k ∨ w.heap.size ≤ k) (hr : pgs' = pgs ++ r) (hb : BL w (Aw d pv sv pgs ob) wv pgs Pf) :
    Core w1 w' d pgs' Pf' pv' sv' (cut ss ++ [f]) (N + 1) (fun i => if i = N + 1 then (pgs'.length, Pf') else sb i) (fun i => if i = N then wv else bl i) ob := by
  have hle := h.du.les
  have hcl : (cut ss ++ [f]).length = (cut ss).length + 1 := by simp
  have hA : ∀ k, k < w.heap.size → Aw d pv' sv' pgs' ob k → Aw d pv sv pgs ob k := fun k hk e => by
    rcases e with e | e
    · rcases ha k e with e | e
      · exact Or.inl e
      · omega
    · exact Or.inr e
  have hS : ∀ k, Av d pv sv pgs k → Aw d pv sv pgs ob k := fun k e => Or.inl e
  have hpl : pgs.length ≤ pgs'.length := by rw [hr]; simp
  have hget : ∀ (n : Nat), n ≤ pgs.length → ∀ (j : Nat) (p : PgI), j < n → pgs[j]? = some p → pgs'[j]? = some p := fun n hn j p hj hp => by rw [hr, List.getElem?_append_left (by omega)]; exact hp
  have htk : ∀ n, n ≤ pgs.length → pgs'.take n = pgs.take n := fun n hn => by rw [hr, List.take_append_of_le_length hn]
  have hms := h.ms
  have hns := h.ns
  have hcut : (cut ss).length ≤ N := by
    unfold cut; split
    · simp; omega
    · exact hms
  refine ⟨hd, by rw [hcl]; omega, fun i j hij hj => ?_, fun i v hv => ?_, fun i hi => ?_, by simp, fun k hk => ?_⟩
  · by_cases e : j = N + 1
    · subst e
      simp only [if_pos]
      by_cases e2 : i = N + 1
      · rw [if_pos e2]; exact Nat.le_refl _
      · rw [if_neg e2]; exact Nat.le_trans (hns i (by omega)) hpl
    · rw [if_neg e, if_neg (by omega)]; exact h.mono i j hij (by omega)
  · rw [hcl]
    by_cases e : i < (cut ss).length
    · rw [List.getElem?_append_left e] at hv
      -- an older step
      have key : ∃ i0, ss[i0]? = some v ∧ N - ss.length + i0 = N + 1 - ((cut ss).length + 1) + i := by
        unfold cut at hv e ⊢
        by_cases h64 : ss.length = 64
        · rw [if_pos h64] at hv e ⊢
          refine ⟨i + 1, by rw [← hv]; cases ss with
            | nil => simp at h64
            | cons a t => rfl, ?_⟩
          simp; omega
        · rw [if_neg h64] at hv e ⊢
          exact ⟨i, hv, by omega⟩
      obtain ⟨i0, hi0, he0⟩ := key
      have hi0l := (List.getElem?_eq_some_iff.mp hi0).1
      rw [← he0, if_neg (by omega), if_neg (by omega)]
      have hst := h.st i0 v hi0
      exact hst.kept fr hS hA (fun j p hj hp => hget _ (hns _ (by omega)) j p hj hp)
    · rw [List.getElem?_append_right (by omega)] at hv
      obtain ⟨q1, q2⟩ := List.getElem?_eq_some_iff.mp hv
      simp at q1 q2
      have hie : N + 1 - ((cut ss).length + 1) + i = N := by omega
      rw [hie, if_neg (by omega), if_pos rfl, h.top]
      rw [← q2]
      exact hs _ (fun k e => e.elim Or.inl (fun e => Or.inr (h.own k e).2.1))
  · by_cases e : i = N
    · subst e
      simp only [if_pos, if_neg (show ¬ i = i + 1 by omega), h.top]
      rw [htk _ (Nat.le_refl _), List.take_length]
      exact hb.kept fr hS hA
    · simp only [if_neg e, if_neg (show ¬ i = N + 1 by omega)]
      rw [htk _ (hns i (by omega))]
      exact (h.ls i (by omega)).kept fr hS hA
  · obtain ⟨a, b, c⟩ := h.own k hk
    exact ⟨a, Nat.lt_of_lt_of_le b fr.size, fun e => (ha k e).elim c (fun e => by omega)⟩

/-- The list of lists grows: another block of its own. -/
theorem Core.grow {w1 w w' : World} {d : Nat} {pgs : List PgI} {Pf : Pix3} {pv sv : Value} {ss : List Value} {N : Nat} {sb : Nat → Nat × Pix3} {bl : Nat → Value} {ob ob' : Option Nat} (h : Core w1 w d pgs Pf pv sv ss N sb bl ob) (f : Fr (fun k => ob = some k) w w') (ho : ∀ k, ob' = some k → (ob = some k ∨ w.heap.size ≤ k) ∧ k < w'.heap.size) : Core w1 w' d pgs Pf pv sv ss N sb bl ob' := by
  have hdl := h.du.doc.lt
  have hA : ∀ k, k < w.heap.size → Aw d pv sv pgs ob' k → Aw d pv sv pgs ob k := fun k hk e => by
    rcases e with e | e
    · exact Or.inl e
    · rcases (ho k e).1 with e | e
      · exact Or.inr e
      · omega
  refine ⟨h.du.same f (fun k hk => ⟨(h.own k hk).1, (h.own k hk).2.2⟩), h.ms, h.mono, fun i v hv => (h.st i v hv).kept f (fun _ e => Or.inr e) hA (fun _ _ _ e => e), fun i hi => (h.ls i hi).kept f (fun _ e => Or.inr e) hA, h.top, fun k hk => ?_⟩
  obtain ⟨a, b⟩ := ho k hk
  rcases a with a | a
  · exact ⟨(h.own k a).1, b, (h.own k a).2.2⟩
  · exact ⟨by omega, b, fun e => by have := Av.lt h.du k e; omega⟩

/-- The last step, undone. -/
theorem Core.pop {w1 w w' : World} {d N : Nat} {pgs : List PgI} {Pf : Pix3} {pv sv pv' sv' f : Value} {ss : List Value} {sb : Nat → Nat × Pix3} {bl : Nat → Value} {ob : Option Nat} (h : Core w1 w d pgs Pf pv sv (ss ++ [f]) (N + 1) sb bl ob)
    (hd : DU w1 w' d (pgs.take (sb N).1) (sb N).2 pv' sv' ss) (fr : Fr (Av d pv sv pgs) w w') (ha : ∀ k, Av d pv' sv' (pgs.take (sb N).1) k → Av d pv sv pgs k) : Core w1 w' d (pgs.take (sb N).1) (sb N).2 pv' sv' ss N sb bl ob := by
  have hms := h.ms
  simp at hms
  have hA : ∀ k, k < w.heap.size → Aw d pv' sv' (pgs.take (sb N).1) ob k → Aw d pv sv pgs ob k := fun k _ e => e.elim (fun e => Or.inl (ha k e)) Or.inr
  have hS : ∀ k, Av d pv sv pgs k → Aw d pv sv pgs ob k := fun k e => Or.inl e
  have hn := h.ns N (by omega)
  refine ⟨hd, hms, fun i j hij hj => h.mono i j hij (by omega), fun i v hv => ?_, fun i hi => ?_, by rw [List.length_take, Nat.min_eq_left hn], fun k hk => ?_⟩
  · have hil := (List.getElem?_eq_some_iff.mp hv).1
    have hst := h.st i v (by rw [List.getElem?_append_left hil]; exact hv)
    have e : N + 1 - (ss ++ [f]).length + i = N - ss.length + i := by simp
    rw [e] at hst
    have hm := h.mono (N - ss.length + i + 1) N (by omega) (by omega)
    exact hst.kept fr hS hA (fun j p hj hp => by rw [List.getElem?_take, if_pos (by omega)]; exact hp)
  · have hm := h.mono i N (by omega) (by omega)
    have hl := (h.ls i (by omega)).kept fr hS hA
    rw [List.take_take, Nat.min_eq_left hm]
    exact hl
  · obtain ⟨a, b, c⟩ := h.own k hk
    exact ⟨a, Nat.lt_of_lt_of_le b fr.size, fun e => c (ha k e)⟩
theorem Core.last {w1 w : World} {d N : Nat} {pgs : List PgI} {Pf : Pix3} {pv sv f : Value} {ss : List Value} {sb : Nat → Nat × Pix3} {bl : Nat → Value} {ob : Option Nat} (h : Core w1 w d pgs Pf pv sv (ss ++ [f]) (N + 1) sb bl ob) : HS w d (Av d pv sv pgs) pgs f (sb N).1 (sb N).2 pgs.length Pf := by
  have hms := h.ms
  simp at hms
  have hst := h.st ss.length f (by simp)
  have e : N + 1 - (ss ++ [f]).length + ss.length = N := by simp; omega
  rw [e, h.top] at hst
  exact hst.kept (Fr.refl (fun _ => False) w) (fun _ e => e.elim) (fun _ _ e => Or.inl e) (fun _ _ _ e => e)
end Go.Proofs.Ytpblenebmjmijaa
