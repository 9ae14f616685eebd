/- Plain mathematics: a piece alone is one piece; pieces have as many black pixels as the bitmap. -/
import Derived.Test.YtgpciopoionmeaaSp
namespace Go.Proofs.Ytgpciopoionmeaa
open Go.RowKit

theorem alone_black {B : Nat × Nat → Prop} {f : Nat × Nat} {p : Pc} (h : IsPc B f p) {q : Nat × Nat} : Bk p.W p.H p.Q q ↔ q.1 < p.W ∧ q.2 < p.H ∧ PC B f (p.X + q.1, p.Y + q.2) := by
  unfold Bk
  constructor
  · rintro ⟨a, b, c⟩; exact ⟨a, b, (h.pix _ _ a b).1 c⟩
  · rintro ⟨a, b, c⟩; exact ⟨a, b, (h.pix _ _ a b).2 c⟩
theorem alone_of {B : Nat × Nat → Prop} {f : Nat × Nat} {p : Pc} (h : IsPc B f p) {r : Nat × Nat} (hr : PC B f r) : Bk p.W p.H p.Q (r.1 - p.X, r.2 - p.Y) := by
  have hb := h.box r hr
  refine (alone_black h).2 ⟨by simp only; omega, by simp only; omega, ?_⟩
  simp only
  rw [show p.X + (r.1 - p.X) = r.1 by omega, show p.Y + (r.2 - p.Y) = r.2 by omega]
  exact hr
theorem alone_conn {B : Nat × Nat → Prop} {f : Nat × Nat} {p : Pc} (h : IsPc B f p) {q : Nat × Nat} (hq : Bk p.W p.H p.Q q) : PC (Bk p.W p.H p.Q) (f.1 - p.X, f.2 - p.Y) q := by
  obtain ⟨a, b, c⟩ := (alone_black h).1 hq
  have := PC.map (B' := Bk p.W p.H p.Q) (fun r => (r.1 - p.X, r.2 - p.Y)) (fun r hr => alone_of h hr) (fun r s hr hs hn => by
    have h1 := h.box r hr
    have h2 := h.box s hs
    unfold nb at hn ⊢
    simp only
    omega) c.within
  simp only at this
  rwa [show p.X + q.1 - p.X = q.1 by omega, show p.Y + q.2 - p.Y = q.2 by omega] at this
theorem first_uniq {B : Nat × Nat → Prop} {f g : Nat × Nat} (hf : First B f) (hg : First B g) (h : PC B f g) : f = g := by
  rcases ras_total f g with r | r | r
  · exact absurd r (hg.2 f h.symm)
  · exact r
  · exact absurd r (hf.2 g h)
theorem alone_pcs {B : Nat × Nat → Prop} {f : Nat × Nat} {p : Pc} (h : IsPc B f p) {fs : List (Nat × Nat)} {l : List Pc} (hf : Firsts (Bk p.W p.H p.Q) fs) (hp : Pcs (Bk p.W p.H p.Q) fs l) : ∃ m, l = [m] ∧ same m ⟨0, 0, p.W, p.H, p.Q⟩ := by
  obtain ⟨q0, hq0, _⟩ := h.l
  have hb0 := alone_of h hq0
  obtain ⟨f0, hf0, hpc0⟩ := exists_first _ _ rfl hb0
  have hall : ∀ q, Bk p.W p.H p.Q q → PC (Bk p.W p.H p.Q) f0 q := fun q hq => (alone_conn h hf0.1).symm.trans (alone_conn h hq)
  have hfs : fs = [f0] := by
    refine sorted_uniq hf.sorted (by simp) (fun g => ?_)
    rw [hf.mem]
    constructor
    · intro hg
      rw [List.mem_singleton]
      exact (first_uniq hf0 hg (hall g hg.1)).symm
    · intro hg
      rw [List.mem_singleton] at hg
      rw [hg]; exact hf0
  subst hfs
  have hl := hp.length
  match l, hl with
  | [m], _ =>
    refine ⟨m, rfl, ?_⟩
    cases hp with
    | cons a _ =>
      refine a.uniq ?_
      have pos := h.pos
      constructor
      · intro x y hx hy
        simp only at hx hy
        simp only [Nat.zero_add]
        constructor
        · intro hq; exact hall _ ⟨hx, hy, hq⟩
        · intro hq; exact hq.right.2.2
      · intro q hq
        have := hq.right
        unfold Bk at this
        simp only
        omega
      · obtain ⟨q, hq, e⟩ := h.l
        exact ⟨_, hall _ (alone_of h hq), by simp only; omega⟩
      · obtain ⟨q, hq, e⟩ := h.r
        have := h.box q hq
        exact ⟨_, hall _ (alone_of h hq), by simp only; omega⟩
      · obtain ⟨q, hq, e⟩ := h.t
        exact ⟨_, hall _ (alone_of h hq), by simp only; omega⟩
      · obtain ⟨q, hq, e⟩ := h.b
        have := h.box q hq
        exact ⟨_, hall _ (alone_of h hq), by simp only; omega⟩

theorem sum_shift (g : Nat → Nat) (X n W : Nat) (h : X + n ≤ W) : sumTo (fun x => if X ≤ x ∧ x < X + n then g (x - X) else 0) W = sumTo g n := by
  obtain ⟨r, rfl⟩ : ∃ r, W = X + (n + r) := ⟨W - X - n, by omega⟩
  rw [sumTo_add, sumTo_add]
  have e1 : sumTo (fun x => if X ≤ x ∧ x < X + n then g (x - X) else 0) X = 0 := by
    rw [sumTo_congr (g := fun _ => 0) (fun k hk => by rw [if_neg (by omega)]), sumTo_zero]
  have e2 : sumTo (fun k => if X ≤ X + k ∧ X + k < X + n then g (X + k - X) else 0) n = sumTo g n := sumTo_congr (fun k hk => by rw [if_pos (by omega), show X + k - X = k by omega])
  have e3 : sumTo (fun k => if X ≤ X + (n + k) ∧ X + (n + k) < X + n then g (X + (n + k) - X) else 0) r = 0 := by
    rw [sumTo_congr (g := fun _ => 0) (fun k hk => by rw [if_neg (by omega)]), sumTo_zero]
  rw [e1, e2, e3]; omega
theorem rp_cnt (q : PV) {W H : Nat} (hx : q.1.X + q.1.W ≤ W) (hy : q.1.Y + q.1.H ≤ H) : cnt W H (fun a e => orP (fun _ _ => false) (rpOf q) a e) = cnt q.1.W q.1.H q.1.Q := by
  unfold cnt
  rw [← sum_shift (fun y => sumTo (fun x => (q.1.Q x y).toNat) q.1.W) q.1.Y q.1.H H hy]
  refine sumTo_congr (fun y _ => ?_)
  have hpx : ∀ x, orP (fun _ _ => false) (rpOf q) x y = (decide (q.1.X ≤ x ∧ x < q.1.X + q.1.W) && decide (q.1.Y ≤ y ∧ y < q.1.Y + q.1.H) && q.1.Q (x - q.1.X) (y - q.1.Y)) := fun x => by
    unfold orP rpOf
    simp only [Bool.false_or, Int.toNat_natCast]
    by_cases c : (q.1.X ≤ x ∧ x < q.1.X + q.1.W) ∧ (q.1.Y ≤ y ∧ y < q.1.Y + q.1.H)
    · rw [decide_eq_true c.1, decide_eq_true c.2, decide_eq_true (by omega)]
      have e1 : ((x : Int) - (q.1.X : Int)).toNat = x - q.1.X := by omega
      have e2 : ((y : Int) - (q.1.Y : Int)).toNat = y - q.1.Y := by omega
      rw [e1, e2, pixOf_render q.1.Q (by omega) (by omega)]; rfl
    · have : (decide (q.1.X ≤ x ∧ x < q.1.X + q.1.W) && decide (q.1.Y ≤ y ∧ y < q.1.Y + q.1.H)) = false := by
        rw [← Bool.decide_and]; exact decide_eq_false c
      rw [this, decide_eq_false (by omega)]; rfl
  by_cases c : q.1.Y ≤ y ∧ y < q.1.Y + q.1.H
  · rw [if_pos c, ← sum_shift (fun x => (q.1.Q x (y - q.1.Y)).toNat) q.1.X q.1.W W hx]
    refine sumTo_congr (fun x _ => ?_)
    show (orP (fun _ _ => false) (rpOf q) x y).toNat = _
    rw [hpx, decide_eq_true c, Bool.and_true]
    by_cases d : q.1.X ≤ x ∧ x < q.1.X + q.1.W
    · rw [if_pos d, decide_eq_true d, Bool.true_and]
    · rw [if_neg d, decide_eq_false d]; rfl
  · rw [if_neg c, sumTo_congr (g := fun _ => 0) (fun x _ => by show (orP (fun _ _ => false) (rpOf q) x y).toNat = 0; rw [hpx, decide_eq_false c]; simp), sumTo_zero]
theorem cnt_or {W H : Nat} {A B : Nat → Nat → Bool} (hd : ∀ a e, a < W → e < H → A a e = true → B a e = false) : cnt W H (fun a e => A a e || B a e) = cnt W H A + cnt W H B := by
  unfold cnt
  rw [← sumTo_plus]
  refine sumTo_congr (fun y hy => ?_)
  rw [← sumTo_plus]
  refine sumTo_congr (fun x hx => ?_)
  have := hd x y hx hy
  cases ha : A x y <;> cases hb : B x y <;> simp_all
def csum (L : List PV) : Nat := (L.map fun q => cnt q.1.W q.1.H q.1.Q).sum
theorem csum_take (L : List PV) (i : Nat) (h : i < L.length) : csum (L.take (i + 1)) = csum (L.take i) + cnt L[i].1.W L[i].1.H L[i].1.Q := by
  unfold csum
  rw [List.take_add_one, List.getElem?_eq_getElem h, List.map_append, List.sum_append]
  simp [Option.toList]
theorem csum_cnt {W H : Nat} {P : Nat → Nat → Bool} {fs : List (Nat × Nat)} {L : List PV} (hf : Firsts (Bk W H P) fs) (hp : Pcs (Bk W H P) fs (L.map (·.1))) : ∀ k, k ≤ L.length → cnt W H (backP ((L.take k).map rpOf)) = csum (L.take k)
  | 0, _ => by
    show cnt W H (fun _ _ => false) = 0
    unfold cnt
    rw [sumTo_congr (g := fun _ => 0) (fun y _ => by show sumTo (fun _ => 0) W = 0; rw [sumTo_zero]), sumTo_zero]
  | k + 1, hk => by
    have hk' : k < L.length := by omega
    rw [csum_take L k hk', ← csum_cnt hf hp k (by omega)]
    have e : backP ((L.take (k + 1)).map rpOf) = fun a e => backP ((L.take k).map rpOf) a e || orP (fun _ _ => false) (rpOf L[k]) a e := by
      funext a e
      rw [List.take_add_one, List.getElem?_eq_getElem hk', List.map_append, backP_any, backP_any, List.any_append]
      simp [Option.toList]
    have hat : ∀ j (hj : j < L.length), ∃ f, fs[j]? = some f ∧ IsPc (Bk W H P) f L[j].1 := fun j hj => hp.at (k := j) (by rw [List.getElem?_map, List.getElem?_eq_getElem hj]; rfl)
    obtain ⟨fk, hfk, hik⟩ := hat k hk'
    have hin := pcs_in hp (p := L[k].1) (List.mem_map.2 ⟨_, List.getElem_mem hk', rfl⟩)
    rw [e, cnt_or, rp_cnt L[k] hin.2.2.1 hin.2.2.2]
    intro a e _ _ ha
    rw [Bool.eq_false_iff]
    intro hb
    rw [backP_any, List.any_eq_true] at ha
    obtain ⟨r, hr, hx⟩ := ha
    obtain ⟨q, hq, rfl⟩ := List.mem_map.1 hr
    obtain ⟨j, hj, rfl⟩ := List.getElem_of_mem hq
    rw [List.length_take] at hj
    rw [List.getElem_take] at hx
    obtain ⟨fj, hfj, hij⟩ := hat j (by omega)
    have p1 := (rp_pix hij a e).1 hx
    have p2 := (rp_pix hik a e).1 hb
    have f1 := (hf.mem fj).1 (List.mem_of_getElem? hfj)
    have f2 := (hf.mem fk).1 (List.mem_of_getElem? hfk)
    have eq := first_uniq f1 f2 (p1.trans p2.symm)
    obtain ⟨l1, e1⟩ := List.getElem?_eq_some_iff.1 hfj
    obtain ⟨l2, e2⟩ := List.getElem?_eq_some_iff.1 hfk
    have := List.pairwise_iff_getElem.1 hf.sorted j k l1 l2 (by omega)
    rw [e1, e2, eq] at this
    exact ras_irrefl _ this
theorem csum_all {W H : Nat} {P : Nat → Nat → Bool} {fs : List (Nat × Nat)} {L : List PV} (hf : Firsts (Bk W H P) fs) (hp : Pcs (Bk W H P) fs (L.map (·.1))) : csum L = cnt W H P := by
  have := csum_cnt hf hp L.length (Nat.le_refl _)
  rw [List.take_length] at this
  rw [← this]
  exact cnt_congr (fun x y hx hy => back_of hf hp x y hx hy)
theorem csum_le {W H : Nat} {P : Nat → Nat → Bool} {fs : List (Nat × Nat)} {L : List PV} (hf : Firsts (Bk W H P) fs) (hp : Pcs (Bk W H P) fs (L.map (·.1))) (hWH : W * H ≤ 1048576) (k : Nat) (hk : k ≤ L.length) : csum (L.take k) ≤ 1048576 := by
  rw [← csum_cnt hf hp k hk]
  have := cnt_le W H (backP ((L.take k).map rpOf))
  rw [Nat.mul_comm] at this
  omega

end Go.Proofs.Ytgpciopoionmeaa
