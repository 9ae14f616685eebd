/- Pages of one size that are drawn on. -/
import Derived.Test.YtpblenebmjmijaaEg
namespace Go.Proofs.Ytpblenebmjmijaa
set_option maxRecDepth 100000
open Go.RowKit

theorem MapAt.bg {w : World} {b g cap W H b' g' cap' W' H' : Nat} {P P' : Nat → Nat → Bool} (h : MapAt w b g cap W H P) (h' : MapAt w b' g' cap' W' H' P') : b ≠ g' := fun e => row_ne h'.own h.blk (by decide) (by rw [e]; rfl)

/-- A document of k pages of one size: their blocks, their pixels. -/
structure Pgs (w1 w : World) (d W H k : Nat) (bs gs : Nat → Nat) (Pf : Nat → Nat → Nat → Bool) (pv sv : Value) (ps ss : List Value) : Prop where
  doc : DocAt w d d pv sv ps ss
  len : ps.length = k
  le : ss.length ≤ 64
  one : ∀ u ∈ ss, u.oneCell' = true
  pg : ∀ j, j < k → ps[j]? = some (.pointer (some ⟨bs j, 0, none⟩))
  mp : ∀ j, j < k → MapAt w (bs j) (gs j) (H * stride W) W H (Pf j)
  ne : ∀ i j, i < k → j < k → i ≠ j → bs i ≠ bs j ∧ gs i ≠ gs j
  lo : ∀ j, j < k → d ≤ bs j ∧ d ≤ gs j
  fr : Fr (fun k => d ≤ k) w1 w
def upd (Pf : Nat → Nat → Nat → Bool) (j : Nat) (P : Nat → Nat → Bool) : Nat → Nat → Nat → Bool := fun i => if i = j then P else Pf i
theorem Pgs.same {w1 w w' : World} {d W H k : Nat} {bs gs : Nat → Nat} {Pf : Nat → Nat → Nat → Bool} {pv sv : Value} {ps ss : List Value} (h : Pgs w1 w d W H k bs gs Pf pv sv ps ss) (f : Fr (fun _ => False) w w') : Pgs w1 w' d W H k bs gs Pf pv sv ps ss :=
  ⟨h.doc.kept f (fun h => h) (fun _ _ h => h) (fun _ _ h => h), h.len, h.le, h.one, h.pg, fun j hj => (h.mp j hj).kept f (fun h => h) (fun h => h), h.ne, h.lo, h.fr.trans f (fun _ _ h => h.elim)⟩
/-- What was drawn on page j. -/
theorem Pgs.drawn {w1 w w' : World} {d W H k j : Nat} {bs gs : Nat → Nat} {Pf : Nat → Nat → Nat → Bool} {pv sv sv' : Value} {ps ss ss' : List Value} {P' : Nat → Nat → Bool} (h : Pgs w1 w d W H k bs gs Pf pv sv ps ss) (hj : j < k)
    (hd : DocAt w' d d pv sv' ps ss') (hl : ss'.length ≤ 64) (ho : ∀ u ∈ ss', u.oneCell' = true) (hm : MapAt w' (bs j) (gs j) (H * stride W) W H P') (f : Fr (fun k => k = d ∨ sv.ownBlock = some k ∨ k = gs j) w w') :
    Pgs w1 w' d W H k bs gs (upd Pf j P') pv sv' ps ss' := by
  refine ⟨hd, h.len, hl, ho, h.pg, fun i hi => ?_, h.ne, h.lo, h.fr.trans f (fun k _ e => ?_)⟩
  · unfold upd
    by_cases e : i = j
    · subst e; rw [if_pos rfl]; exact hm
    · rw [if_neg e]
      have hap := (h.mp i hi).apart h.doc
      exact (h.mp i hi).kept f (fun e1 => e1.elim hap.1 (fun e1 => e1.elim hap.2.2.2.2.1 (fun e1 => (h.mp i hi).bg (h.mp j hj) e1))) (fun e1 => e1.elim hap.2.1 (fun e1 => e1.elim hap.2.2.2.2.2 (h.ne i j hi hj e).2))
  · rcases e with e | e | e
    · omega
    · exact (h.doc.st.lt k e).1
    · rw [e]; exact (h.lo j hj).2
theorem Pgs.congr {w1 w : World} {d W H k : Nat} {bs gs : Nat → Nat} {Pf Qf : Nat → Nat → Nat → Bool} {pv sv : Value} {ps ss : List Value} (h : Pgs w1 w d W H k bs gs Pf pv sv ps ss) (e : ∀ j, j < k → ∀ x y, x < W → y < H → Pf j x y = Qf j x y) : Pgs w1 w d W H k bs gs Qf pv sv ps ss :=
  ⟨h.doc, h.len, h.le, h.one, h.pg, fun j hj => (h.mp j hj).pix (e j hj), h.ne, h.lo, h.fr⟩
theorem oneCell_func (fn : Fn) (caps : Array Value) : (Value.func fn #[] caps).oneCell' = true := rfl
theorem one_cut {ss : List Value} {fn : Fn} {caps : Array Value} (h : ∀ u ∈ ss, u.oneCell' = true) : ∀ u ∈ cut ss ++ [.func fn #[] caps], u.oneCell' = true := by
  intro u hu
  rcases List.mem_append.mp hu with hu | hu
  · exact cut_one h u hu
  · simp at hu; subst hu; rfl
theorem len_cut {ss : List Value} {f : Value} (h : ss.length ≤ 64) : (cut ss ++ [f]).length ≤ 64 := by
  have := cut_len h
  simp; omega
/-- A page more. -/
theorem Pgs.more {w1 w w' : World} {d W H k b g : Nat} {bs gs : Nat → Nat} {Pf : Nat → Nat → Nat → Bool} {pv sv pv' sv' u : Value} {ps ss : List Value} (h : Pgs w1 w d W H k bs gs Pf pv sv ps ss) (hk : ss.length < 64) (hu : u.oneCell' = true)
    (hd : DocAt w' d d pv' sv' (ps ++ [.pointer (some ⟨b, 0, none⟩)]) (ss ++ [u])) (hm : MapAt w' b g (H * stride W) W H (fun _ _ => false)) (f : Fr (fun k => k = d ∨ pv.ownBlock = some k ∨ sv.ownBlock = some k) w w') (hb : w.heap.size ≤ b) (hg : w.heap.size ≤ g) :
    Pgs w1 w' d W H (k + 1) (fun j => if j = k then b else bs j) (fun j => if j = k then g else gs j) (upd Pf k (fun _ _ => false)) pv' sv' (ps ++ [.pointer (some ⟨b, 0, none⟩)]) (ss ++ [u]) := by
  have hdl := h.doc.lt
  have hlen := h.len
  refine ⟨hd, by simp [hlen], by simp; omega, fun v hv => ?_, fun j hj => ?_, fun j hj => ?_, fun i j hi hj hij => ?_, fun j hj => ?_, h.fr.trans f (fun k _ e => ?_)⟩
  · rcases List.mem_append.mp hv with hv | hv
    · exact h.one v hv
    · simp at hv; subst hv; exact hu
  · by_cases e : j = k
    · subst e
      rw [List.getElem?_append_right (by omega), hlen, Nat.sub_self]; simp
    · rw [List.getElem?_append_left (by omega), h.pg j (by omega), if_neg e]
  · unfold upd
    by_cases e : j = k
    · subst e; simp only [if_pos]; exact hm
    · have hj' : j < k := by omega
      have hap := (h.mp j hj').apart h.doc
      simp only [if_neg e]
      exact (h.mp j hj').kept f (fun e1 => e1.elim hap.1 (fun e1 => e1.elim hap.2.2.1 hap.2.2.2.2.1)) (fun e1 => e1.elim hap.2.1 (fun e1 => e1.elim hap.2.2.2.1 hap.2.2.2.2.2))
  · by_cases e1 : i = k
    · by_cases e2 : j = k
      · omega
      · have h1 := (h.mp j (by omega)).lt
        have h2 := (h.mp j (by omega)).glt
        simp only [if_pos e1, if_neg e2]
        exact ⟨by omega, by omega⟩
    · by_cases e2 : j = k
      · have h1 := (h.mp i (by omega)).lt
        have h2 := (h.mp i (by omega)).glt
        simp only [if_pos e2, if_neg e1]
        exact ⟨by omega, by omega⟩
      · simp only [if_neg e1, if_neg e2]
        exact h.ne i j (by omega) (by omega) hij
  · by_cases e : j = k
    · simp only [if_pos e]; omega
    · simp only [if_neg e]; exact h.lo j (by omega)
  · rcases e with e | e | e
    · omega
    · exact (h.doc.pg.lt k e).1
    · exact (h.doc.st.lt k e).1

set_option maxHeartbeats 1000000 in
theorem docSet_out (base d b g cap W H n : Nat) (x y bit : Int) (P : Nat → Nat → Bool) (pv sv : Value) (ps ss : List Value) (w : World) (h : DocAt w base d pv sv ps ss) (hm : MapAt w b g cap W H P) (hv : ps[n]? = some (.pointer (some ⟨b, 0, none⟩))) (hb : ps.length ≤ 64) (hx : ¬ (0 ≤ x ∧ x < W ∧ 0 ≤ y ∧ y < H)) :
    Calls Try.prog 9 #[.pointer (some ⟨d, 0, none⟩), .int .i64 n, .int .i64 x, .int .i64 y, .int .i64 bit] w fun e w' => e = .returned (.int .i64 182) ∧ Fr (fun _ => False) w w' := by
  have HD : Hid (DocAt w base d pv sv ps ss) := h
  have HM : Hid (MapAt w b g cap W H P) := hm
  clear h hm
  go_enter Try.func9, Try.ntmps9
  go_wp2_with fail
  refine (page_in base d pv sv ps ss n _ _ HD.out hv hb).mono ?_
  rintro e w1 ⟨rfl, rfl⟩
  go_wp2_with fail
  refine (dinside_any b g cap W H P x y _ HM.out).mono ?_
  rintro e w2 ⟨rfl, q, rfl⟩
  rw [decide_eq_false hx]
  go_wp2_with fail
  go_ret
  exact ⟨rfl, (Fr.refl _ _).drewN q⟩

/-- Pixels that are set one by one: the rows ahead of j, and of row j those ahead of i. -/
def partPix (x y a : Int) (i j : Int) : Nat → Nat → Bool := fun p e => decide ((x ≤ p ∧ (p : Int) < x + a ∧ y ≤ e ∧ (e : Int) < j) ∨ ((e : Int) = j ∧ x ≤ p ∧ (p : Int) < i))
theorem part_start (x y a : Int) : partPix x y a x y = fun _ _ => false := by
  funext p e; unfold partPix; exact decide_eq_false (by omega)
theorem part_next (x y a i j : Int) (I J : Nat) (hI : i = I) (hJ : j = J) (hx : x ≤ i) (ha : i < x + a) (hy : y ≤ j) : laidAll (partPix x y a i j) J I 1 (fun _ => decide (1 = 1)) = partPix x y a (i + 1) j := by
  funext p e; unfold laidAll partPix
  by_cases h : e = J ∧ I ≤ p ∧ p < I + 1
  · rw [if_pos h]; simp; omega
  · rw [if_neg h]; congr 1; apply propext; omega
theorem part_skip (x y a i j : Int) (W H : Nat) (hn : ¬ (0 ≤ i ∧ i < W ∧ 0 ≤ j ∧ j < H)) : ∀ p e : Nat, p < W → e < H → partPix x y a i j p e = partPix x y a (i + 1) j p e := by
  intro p e hp he; unfold partPix; congr 1; apply propext; omega
theorem part_row (x y a j : Int) (h : 0 ≤ a) (hj : y ≤ j) : partPix x y a (x + a) j = partPix x y a x (j + 1) := by
  funext p e; unfold partPix; congr 1; apply propext; omega
theorem part_end (x y a b : Int) : partPix x y a x (y + b) = fillPix (fun _ _ => false) x y a b (decide (1 = 1)) := by
  funext p e; unfold partPix fillPix
  by_cases h : (0 ≤ (p : Int) - x ∧ (p : Int) - x < a) ∧ (0 ≤ (e : Int) - y ∧ (e : Int) - y < b)
  · rw [if_pos h]; simp; omega
  · rw [if_neg h]; exact decide_eq_false (by omega)
theorem blit_whole (P Q : Nat → Nat → Bool) (W H : Nat) : ∀ p e : Nat, p < W → e < H → blitPix (opB 4) Q P W H 0 0 W H 0 0 p e = P p e := by
  intro p e hp he; unfold blitPix
  rw [if_pos (by omega)]
  simp [opB]
end Go.Proofs.Ytpblenebmjmijaa
