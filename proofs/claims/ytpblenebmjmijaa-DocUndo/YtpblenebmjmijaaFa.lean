/- What a document's steps are worth: the states ahead of them. -/
import Derived.Test.YtpblenebmjmijaaEh
namespace Go.Proofs.Ytpblenebmjmijaa
set_option maxRecDepth 100000
open Go.RowKit

abbrev Pix3 := Nat → Nat → Nat → Bool
structure PgI where
  b : Nat
  g : Nat
  W : Nat
  H : Nat
def ptrs (pgs : List PgI) : List Value := pgs.map fun p => .pointer (some ⟨p.b, 0, none⟩)
theorem ptrs_get {pgs : List PgI} {j : Nat} {p : PgI} (h : pgs[j]? = some p) : (ptrs pgs)[j]? = some (.pointer (some ⟨p.b, 0, none⟩)) := by simp [ptrs, h]
theorem ptrs_len (pgs : List PgI) : (ptrs pgs).length = pgs.length := by simp [ptrs]
/-- The blocks that are the document's. -/
def Av (d : Nat) (pv sv : Value) (pgs : List PgI) (k : Nat) : Prop := k = d ∨ pv.ownBlock = some k ∨ sv.ownBlock = some k ∨ ∃ (j : Nat) (p : PgI), pgs[j]? = some p ∧ (k = p.b ∨ k = p.g)

/-- A document with pages of any sizes. -/
structure DU (w1 w : World) (d : Nat) (pgs : List PgI) (Pf : Pix3) (pv sv : Value) (ss : List Value) : Prop where
  doc : DocAt w d d pv sv (ptrs pgs) ss
  le : pgs.length ≤ 64
  les : ss.length ≤ 64
  one : ∀ u ∈ ss, u.oneCell' = true
  mp : ∀ (j : Nat) (p : PgI), pgs[j]? = some p → MapAt w p.b p.g (p.H * stride p.W) p.W p.H (Pf j)
  ne : ∀ (i j : Nat) (p q : PgI), pgs[i]? = some p → pgs[j]? = some q → i ≠ j → p.b ≠ q.b ∧ p.g ≠ q.g
  lo : ∀ (j : Nat) (p : PgI), pgs[j]? = some p → d ≤ p.b ∧ d ≤ p.g
  fr : Fr (fun k => d ≤ k) w1 w

/-- A rectangle's step, its blocks away from A. -/
def RA (w : World) (A : Nat → Prop) (f : Value) (b W H : Nat) (P : Nat → Nat → Bool) (q1 n1 q2 n2 : Nat) : Prop :=
  ((n1 = 0 ∨ n2 = 0) ∧ f = .func (.func 45) #[] #[]) ∨
  (1 ≤ n1 ∧ 1 ≤ n2 ∧ q1 + n1 ≤ W ∧ q2 + n2 ≤ H ∧ ∃ s t b0 g0, f = .func (.func 47) #[] (rectCaps s t) ∧ RectAt w s t b b0 q1 n1 q2 n2 ∧ MapAt w b0 g0 (n2 * stride n1) n1 n2 (cropPix W H P q1 q2) ∧ ¬ A s ∧ ¬ A t ∧ ¬ A (s + 1) ∧ ¬ A (s + 2) ∧ ¬ A b0 ∧ ¬ A g0)
theorem RA.kept {S A A' : Nat → Prop} {w w' : World} {f : Value} {b W H : Nat} {P : Nat → Nat → Bool} {q1 n1 q2 n2 : Nat} (h : RA w A f b W H P q1 n1 q2 n2) (fr : Fr S w w') (hs : ∀ k, S k → A k) (ha : ∀ k, k < w.heap.size → A' k → A k) : RA w' A' f b W H P q1 n1 q2 n2 := by
  rcases h with h | ⟨h1, h2, h3, h4, s, t, b0, g0, hf, hr, hm, k1, k2, k3, k4, k5, k6⟩
  · exact Or.inl h
  · refine Or.inr ⟨h1, h2, h3, h4, s, t, b0, g0, hf, hr.kept fr (fun k hk e => ?_), hm.kept fr (fun e => k5 (hs _ e)) (fun e => k6 (hs _ e)), fun e => k1 (ha _ (lt_of_block hr.c0) e), fun e => k2 (ha _ (lt_of_block hr.c1) e), fun e => k3 (ha _ (lt_of_block hr.c2) e), fun e => k4 (ha _ (lt_of_block hr.c3) e), fun e => k5 (ha _ hm.lt e), fun e => k6 (ha _ hm.glt e)⟩
    rcases hk with rfl | rfl | rfl | rfl
    · exact k1 (hs _ e)
    · exact k2 (hs _ e)
    · exact k3 (hs _ e)
    · exact k4 (hs _ e)

/-- A step f that led from n' pages with the pixels P' to n pages with the pixels P. -/
def HS (w : World) (d : Nat) (A : Nat → Prop) (pgs : List PgI) (f : Value) (n' : Nat) (P' : Pix3) (n : Nat) (P : Pix3) : Prop :=
  (n = n' + 1 ∧ (∀ j, j < n' → P j = P' j) ∧ ∃ bx, f = .func (.func 19) #[] #[.pointer (some ⟨bx, 0, none⟩)] ∧ w.heap[bx]? = some (.cells #[.pointer (some ⟨d, 0, none⟩)] 25 (0, 0)) ∧ ¬ A bx) ∨
  (n = n' ∧ ∃ (j : Nat) (p : PgI), j < n ∧ pgs[j]? = some p ∧ (∀ i, i ≠ j → P i = P' i) ∧
    ((∃ s x y, f = .func (.func 40) #[] (pixCaps s) ∧ x < p.W ∧ y < p.H ∧ PixAt w s p.b x y (P' j x y).toNat ∧ (∀ a e, ¬ (a = x ∧ e = y) → P j a e = P' j a e) ∧ ¬ A s ∧ ¬ A (s + 1) ∧ ¬ A (s + 2) ∧ ¬ A (s + 4)) ∨
     (∃ q1 n1 q2 n2, (∀ a e, a < p.W → e < p.H → ¬ (q1 ≤ a ∧ a < q1 + n1 ∧ q2 ≤ e ∧ e < q2 + n2) → P j a e = P' j a e) ∧ RA w A f p.b p.W p.H (P' j) q1 n1 q2 n2)))
theorem HS.kept {S A A' : Nat → Prop} {w w' : World} {d : Nat} {pgs pgs' : List PgI} {f : Value} {n' n : Nat} {P' P : Pix3} (h : HS w d A pgs f n' P' n P) (fr : Fr S w w') (hs : ∀ k, S k → A k) (ha : ∀ k, k < w.heap.size → A' k → A k) (hp : ∀ (j : Nat) (p : PgI), j < n → pgs[j]? = some p → pgs'[j]? = some p) : HS w' d A' pgs' f n' P' n P := by
  rcases h with ⟨h1, h2, bx, h3, h4, h5⟩ | ⟨h1, j, p, h2, h3, h4, h5⟩
  · exact Or.inl ⟨h1, h2, bx, h3, (fr.block _ (lt_of_block h4) (fun e => h5 (hs _ e))).trans h4, fun e => h5 (ha _ (lt_of_block h4) e)⟩
  · refine Or.inr ⟨h1, j, p, h2, hp j p h2 h3, h4, ?_⟩
    rcases h5 with ⟨s, x, y, g1, g2, g3, g4, g5, k1, k2, k3, k4⟩ | ⟨q1, n1, q2, n2, g1, g2⟩
    · refine Or.inl ⟨s, x, y, g1, g2, g3, ⟨(fr.block _ (lt_of_block g4.c0) (fun e => k1 (hs _ e))).trans g4.c0, (fr.block _ (lt_of_block g4.c1) (fun e => k2 (hs _ e))).trans g4.c1, (fr.block _ (lt_of_block g4.c2) (fun e => k3 (hs _ e))).trans g4.c2, (fr.block _ (lt_of_block g4.c3) (fun e => k4 (hs _ e))).trans g4.c3⟩, g5, fun e => k1 (ha _ (lt_of_block g4.c0) e), fun e => k2 (ha _ (lt_of_block g4.c1) e), fun e => k3 (ha _ (lt_of_block g4.c2) e), fun e => k4 (ha _ (lt_of_block g4.c3) e)⟩
    · exact Or.inr ⟨q1, n1, q2, n2, g1, g2.kept fr hs ha⟩

theorem Av.lt {w1 w : World} {d : Nat} {pgs : List PgI} {Pf : Pix3} {pv sv : Value} {ss : List Value} (h : DU w1 w d pgs Pf pv sv ss) (k : Nat) (hk : Av d pv sv pgs k) : k < w.heap.size := by
  rcases hk with rfl | hk | hk | ⟨j, p, hj, rfl | rfl⟩
  · exact h.doc.lt
  · exact (h.doc.pg.lt k hk).2
  · exact (h.doc.st.lt k hk).2
  · exact (h.mp j p hj).lt
  · exact (h.mp j p hj).glt

theorem DU.same {w1 w w' : World} {d : Nat} {pgs : List PgI} {Pf : Pix3} {pv sv : Value} {ss : List Value} {S : Nat → Prop} (h : DU w1 w d pgs Pf pv sv ss) (f : Fr S w w') (hS : ∀ k, S k → d ≤ k ∧ ¬ Av d pv sv pgs k) : DU w1 w' d pgs Pf pv sv ss :=
  ⟨h.doc.kept f (fun e => (hS _ e).2 (Or.inl rfl)) (fun _ hk e => (hS _ e).2 (Or.inr (Or.inl hk))) (fun _ hk e => (hS _ e).2 (Or.inr (Or.inr (Or.inl hk)))), h.le, h.les, h.one, fun j p hj => (h.mp j p hj).kept f (fun e => (hS _ e).2 (Or.inr (Or.inr (Or.inr ⟨j, p, hj, Or.inl rfl⟩)))) (fun e => (hS _ e).2 (Or.inr (Or.inr (Or.inr ⟨j, p, hj, Or.inr rfl⟩)))), h.ne, h.lo, h.fr.trans f (fun _ _ e => (hS _ e).1)⟩
theorem DU.still {w1 w w' : World} {d : Nat} {pgs : List PgI} {Pf : Pix3} {pv sv : Value} {ss : List Value} (h : DU w1 w d pgs Pf pv sv ss) (f : Fr (fun _ => False) w w') : DU w1 w' d pgs Pf pv sv ss := h.same f (fun _ e => e.elim)

/-- What was drawn on page j. -/
theorem DU.drawn {w1 w w' : World} {d j : Nat} {p : PgI} {pgs : List PgI} {Pf : Pix3} {pv sv sv' : Value} {ss ss' : List Value} {P' : Nat → Nat → Bool} (h : DU w1 w d pgs Pf pv sv ss) (hj : pgs[j]? = some p)
    (hd : DocAt w' d d pv sv' (ptrs pgs) ss') (hl : ss'.length ≤ 64) (ho : ∀ u ∈ ss', u.oneCell' = true) (hm : MapAt w' p.b p.g (p.H * stride p.W) p.W p.H P') (f : Fr (fun k => k = d ∨ sv.ownBlock = some k ∨ k = p.g) w w') :
    DU w1 w' d pgs (upd Pf j P') pv sv' ss' := by
  refine ⟨hd, h.le, hl, ho, fun i q hi => ?_, h.ne, h.lo, h.fr.trans f (fun k _ e => ?_)⟩
  · unfold upd
    by_cases e : i = j
    · subst e
      rw [hj] at hi; cases hi
      rw [if_pos rfl]; exact hm
    · rw [if_neg e]
      have hap := (h.mp i q hi).apart h.doc
      exact (h.mp i q hi).kept f (fun e1 => e1.elim hap.1 (fun e1 => e1.elim hap.2.2.2.2.1 (fun e1 => (h.mp i q hi).bg (h.mp j p hj) e1))) (fun e1 => e1.elim hap.2.1 (fun e1 => e1.elim hap.2.2.2.2.2 (h.ne i j q p hi hj e).2))
  · rcases e with e | e | e
    · omega
    · exact (h.doc.st.lt k e).1
    · rw [e]; exact (h.lo j p hj).2
theorem DU.congr {w1 w : World} {d : Nat} {pgs : List PgI} {Pf Qf : Pix3} {pv sv : Value} {ss : List Value} (h : DU w1 w d pgs Pf pv sv ss) (e : ∀ (j : Nat) (p : PgI), pgs[j]? = some p → ∀ x y, x < p.W → y < p.H → Pf j x y = Qf j x y) : DU w1 w d pgs Qf pv sv ss :=
  ⟨h.doc, h.le, h.les, h.one, fun j p hj => (h.mp j p hj).pix (e j p hj), h.ne, h.lo, h.fr⟩
/-- A page more. -/
theorem DU.more {w1 w w' : World} {d W H b g : Nat} {pgs : List PgI} {Pf : Pix3} {pv sv pv' sv' : Value} {ss ss' : List Value} (h : DU w1 w d pgs Pf pv sv ss) (hk : pgs.length < 64) (hl : ss'.length ≤ 64) (ho : ∀ u ∈ ss', u.oneCell' = true)
    (hd : DocAt w' d d pv' sv' (ptrs pgs ++ [.pointer (some ⟨b, 0, none⟩)]) ss') (hm : MapAt w' b g (H * stride W) W H (fun _ _ => false)) (f : Fr (fun k => k = d ∨ pv.ownBlock = some k ∨ sv.ownBlock = some k) w w') (hb : w.heap.size ≤ b) (hg : w.heap.size ≤ g) :
    DU w1 w' d (pgs ++ [⟨b, g, W, H⟩]) (upd Pf pgs.length (fun _ _ => false)) pv' sv' ss' := by
  have hdl := h.doc.lt
  have cs : ∀ (j : Nat) (q : PgI), (pgs ++ [⟨b, g, W, H⟩])[j]? = some q → pgs[j]? = some q ∨ (j = pgs.length ∧ q = ⟨b, g, W, H⟩) := fun j q hq => by
    by_cases e : j < pgs.length
    · rw [List.getElem?_append_left e] at hq; exact Or.inl hq
    · rw [List.getElem?_append_right (by omega)] at hq
      obtain ⟨h1, h2⟩ := List.getElem?_eq_some_iff.mp hq
      simp at h1 h2
      exact Or.inr ⟨by omega, h2.symm⟩
  refine ⟨by rw [show ptrs (pgs ++ [⟨b, g, W, H⟩]) = ptrs pgs ++ [.pointer (some ⟨b, 0, none⟩)] by simp [ptrs]]; exact hd, by simp; omega, hl, ho, fun j q hq => ?_, fun i j p q hi hj hij => ?_, fun j q hq => ?_, h.fr.trans f (fun k _ e => ?_)⟩
  · unfold upd
    rcases cs j q hq with hq | ⟨rfl, rfl⟩
    · have hne : j ≠ pgs.length := fun e => by have := (List.getElem?_eq_some_iff.mp hq).1; omega
      have hap := (h.mp j q hq).apart h.doc
      rw [if_neg hne]
      exact (h.mp j q hq).kept f (fun e1 => e1.elim hap.1 (fun e1 => e1.elim hap.2.2.1 hap.2.2.2.2.1)) (fun e1 => e1.elim hap.2.1 (fun e1 => e1.elim hap.2.2.2.1 hap.2.2.2.2.2))
    · rw [if_pos rfl]; exact hm
  · rcases cs i p hi with hi | ⟨rfl, rfl⟩ <;> rcases cs j q hj with hj | ⟨rfl, rfl⟩
    · exact h.ne i j p q hi hj hij
    · have h1 := (h.mp i p hi).lt
      have h2 := (h.mp i p hi).glt
      exact ⟨by show p.b ≠ b; omega, by show p.g ≠ g; omega⟩
    · have h1 := (h.mp j q hj).lt
      have h2 := (h.mp j q hj).glt
      exact ⟨by show b ≠ q.b; omega, by show g ≠ q.g; omega⟩
    · omega
  · rcases cs j q hq with hq | ⟨rfl, rfl⟩
    · exact h.lo j q hq
    · exact ⟨by show d ≤ b; omega, by show d ≤ g; omega⟩
  · rcases e with e | e | e
    · omega
    · exact (h.doc.pg.lt k e).1
    · exact (h.doc.st.lt k e).1
end Go.Proofs.Ytpblenebmjmijaa
