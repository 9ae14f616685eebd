/- Plain mathematics: the pieces of a mirrored bitmap are the mirrored pieces. -/
import Derived.Test.YtgpciopoionmeaaRa
namespace Go.Proofs.Ytgpciopoionmeaa
open Go.RowKit

def mirQ (W : Nat) (P : Nat → Nat → Bool) : Nat → Nat → Bool := fun x y => P (W - 1 - x) y
def mirP (W : Nat) (p : Pc) : Pc := ⟨W - p.X - p.W, p.Y, p.W, p.H, fun x y => p.Q (p.W - 1 - x) y⟩
def mirF (W : Nat) (p : Nat × Nat) : Nat × Nat := (W - 1 - p.1, p.2)
section
variable {W H : Nat} {P : Nat → Nat → Bool}
theorem mir_black {p : Nat × Nat} (h : Bk W H P p) : Bk W H (mirQ W P) (mirF W p) := by
  obtain ⟨a, b, c⟩ := h
  refine ⟨by unfold mirF; simp only; omega, b, ?_⟩
  unfold mirQ mirF
  simp only
  rwa [show W - 1 - (W - 1 - p.1) = p.1 by omega]
theorem mir_black' {p : Nat × Nat} (h : Bk W H (mirQ W P) p) : Bk W H P (mirF W p) := by
  obtain ⟨a, b, c⟩ := h
  exact ⟨by unfold mirF; simp only; omega, b, c⟩
theorem mirF_mirF {p : Nat × Nat} (h : p.1 < W) : mirF W (mirF W p) = p := by
  unfold mirF
  obtain ⟨a, b⟩ := p
  simp only at h
  simp only [Prod.mk.injEq, and_true]
  omega
theorem mir_nb {p q : Nat × Nat} (hp : p.1 < W) (hq : q.1 < W) (h : nb p q) : nb (mirF W p) (mirF W q) := by
  unfold nb mirF at *
  simp only
  omega
theorem mir_pc {p q : Nat × Nat} (h : PC (Bk W H P) p q) : PC (Bk W H (mirQ W P)) (mirF W p) (mirF W q) :=
  PC.map (mirF W) (fun _ h => mir_black h) (fun _ _ hp hq hn => mir_nb hp.1 hq.1 hn) h
theorem mir_pc' {p q : Nat × Nat} (h : PC (Bk W H (mirQ W P)) p q) : PC (Bk W H P) (mirF W p) (mirF W q) :=
  PC.map (mirF W) (fun _ h => mir_black' h) (fun _ _ hp hq hn => mir_nb hp.1 hq.1 hn) h
theorem mir_isPc {f : Nat × Nat} {p : Pc} (h : IsPc (Bk W H P) f p) (hX : p.X + p.W ≤ W) : IsPc (Bk W H (mirQ W P)) (mirF W f) (mirP W p) := by
  have pos := h.pos
  constructor
  · intro x y hx hy
    simp only [mirP] at hx hy
    show p.Q (p.W - 1 - x) y = true ↔ PC _ _ (W - p.X - p.W + x, p.Y + y)
    rw [h.pix _ _ (show p.W - 1 - x < p.W by omega) hy]
    have e : mirF W (p.X + (p.W - 1 - x), p.Y + y) = (W - p.X - p.W + x, p.Y + y) := by
      unfold mirF; simp only [Prod.mk.injEq, and_true]; omega
    constructor
    · intro hp; have := mir_pc hp; rwa [e] at this
    · intro hp
      have hf : f.1 < W := by have := h.l; obtain ⟨q, hq, _⟩ := this; exact hq.left.1
      have := mir_pc' hp
      rw [mirF_mirF hf, ← e, mirF_mirF (show (p.X + (p.W - 1 - x), p.Y + y).1 < W by simp only; omega)] at this
      exact this
  · intro q hq
    have hq' := mir_pc' hq
    have hf : f.1 < W := by have := h.l; obtain ⟨q, hq, _⟩ := this; exact hq.left.1
    rw [mirF_mirF hf] at hq'
    have := h.box _ hq'
    have hb := hq.right.1
    unfold mirF at this
    simp only [mirP] at this ⊢
    omega
  · obtain ⟨q, hq, e⟩ := h.r
    have hb := hq.right.1
    exact ⟨_, mir_pc hq, by simp only [mirF, mirP]; omega⟩
  · obtain ⟨q, hq, e⟩ := h.l
    have hb := hq.right.1
    exact ⟨_, mir_pc hq, by simp only [mirF, mirP]; omega⟩
  · obtain ⟨q, hq, e⟩ := h.t
    exact ⟨_, mir_pc hq, by simp only [mirF, mirP]; omega⟩
  · obtain ⟨q, hq, e⟩ := h.b
    exact ⟨_, mir_pc hq, by simp only [mirF, mirP]; omega⟩
end
theorem IsPc.move {B : Nat × Nat → Prop} {f g : Nat × Nat} {p : Pc} (h : IsPc B f p) (hg : PC B g f) : IsPc B g p := by
  have hi : ∀ q, PC B g q ↔ PC B f q := fun q => ⟨fun h => hg.symm.trans h, fun h => hg.trans h⟩
  constructor
  · intro x y hx hy; rw [h.pix x y hx hy, hi]
  · intro q hq; exact h.box q ((hi q).1 hq)
  · obtain ⟨q, hq, e⟩ := h.l; exact ⟨q, (hi q).2 hq, e⟩
  · obtain ⟨q, hq, e⟩ := h.r; exact ⟨q, (hi q).2 hq, e⟩
  · obtain ⟨q, hq, e⟩ := h.t; exact ⟨q, (hi q).2 hq, e⟩
  · obtain ⟨q, hq, e⟩ := h.b; exact ⟨q, (hi q).2 hq, e⟩
theorem same.symm {p q : Pc} (h : same p q) : same q p := by
  obtain ⟨a, b, c, d, e⟩ := h
  exact ⟨a.symm, b.symm, c.symm, d.symm, fun x y hx hy => (e x y (by omega) (by omega)).symm⟩
theorem same.trans {p q r : Pc} (h : same p q) (k : same q r) : same p r := by
  obtain ⟨a, b, c, d, e⟩ := h
  obtain ⟨a', b', c', d', e'⟩ := k
  exact ⟨a.trans a', b.trans b', c.trans c', d.trans d', fun x y hx hy => (e x y hx hy).trans (e' x y (by omega) (by omega))⟩
/-- Two pieces of a bitmap that look alike are one. -/
theorem same_one {B : Nat × Nat → Prop} {fs : List (Nat × Nat)} {l : List Pc} (hf : Firsts B fs) (hp : Pcs B fs l) {i j : Nat} (hi : i < l.length) (hj : j < l.length) (h : same l[i] l[j]) : i = j := by
  obtain ⟨f, ef, pf⟩ := hp.at (List.getElem?_eq_getElem hi)
  obtain ⟨g, eg, pg⟩ := hp.at (List.getElem?_eq_getElem hj)
  have ff := (hf.mem f).1 (List.mem_of_getElem? ef)
  have fg := (hf.mem g).1 (List.mem_of_getElem? eg)
  have hpf : PC B f f := .refl ff.1
  have hb := pf.box f hpf
  obtain ⟨a, b, c, d, e⟩ := h
  have q1 := (pf.pix (f.1 - l[i].X) (f.2 - l[i].Y) (by omega) (by omega)).2 (by
    rw [show l[i].X + (f.1 - l[i].X) = f.1 by omega, show l[i].Y + (f.2 - l[i].Y) = f.2 by omega]; exact hpf)
  rw [e _ _ (by omega) (by omega)] at q1
  have q2 := (pg.pix (f.1 - l[i].X) (f.2 - l[i].Y) (by omega) (by omega)).1 q1
  rw [show l[j].X + (f.1 - l[i].X) = f.1 by omega, show l[j].Y + (f.2 - l[i].Y) = f.2 by omega] at q2
  have eq := first_uniq ff fg q2.symm
  obtain ⟨l1, e1⟩ := List.getElem?_eq_some_iff.1 ef
  obtain ⟨l2, e2⟩ := List.getElem?_eq_some_iff.1 eg
  rcases Nat.lt_trichotomy i j with h | h | h
  · have := List.pairwise_iff_getElem.1 hf.sorted i j l1 l2 h
    rw [e1, e2, eq] at this
    exact absurd this (ras_irrefl _)
  · exact h
  · have := List.pairwise_iff_getElem.1 hf.sorted j i l2 l1 h
    rw [e1, e2, eq] at this
    exact absurd this (ras_irrefl _)
theorem mir_same {W : Nat} {p q : Pc} (hp : p.X + p.W ≤ W) (hq : q.X + q.W ≤ W) (h : same (mirP W p) (mirP W q)) : same p q := by
  obtain ⟨a, b, c, d, e⟩ := h
  simp only [mirP] at a b c d e
  refine ⟨by omega, b, c, d, fun x y hx hy => ?_⟩
  have := e (p.W - 1 - x) y (by omega) hy
  rw [← c, show p.W - 1 - (p.W - 1 - x) = x by omega] at this
  exact this
theorem nodup_le : ∀ {a b : List Nat}, a.Nodup → (∀ x ∈ a, x ∈ b) → a.length ≤ b.length
  | [], _, _, _ => Nat.zero_le _
  | x :: t, b, hn, h => by
    obtain ⟨h1, h2⟩ := List.nodup_cons.1 hn
    have hx := h x (List.mem_cons_self ..)
    have := nodup_le (a := t) (b := b.erase x) h2 (fun y hy => (List.mem_erase_of_ne (fun e : y = x => h1 (by rw [← e]; exact hy))).2 (h y (List.mem_cons_of_mem _ hy)))
    rw [List.length_erase_of_mem hx] at this
    have := List.length_pos_of_mem hx
    simp only [List.length_cons]
    omega
theorem inj_le {n m : Nat} (σ : Nat → Nat) (h : ∀ i, i < n → σ i < m) (hi : ∀ i j, i < n → j < n → σ i = σ j → i = j) : n ≤ m := by
  have := nodup_le (a := (List.range n).map σ) (b := List.range m) (by
    refine List.pairwise_map.2 ?_
    refine (List.nodup_range (n := n)).imp_of_mem ?_
    intro a b ha hb hab e
    exact hab (hi a b (List.mem_range.1 ha) (List.mem_range.1 hb) e)) (fun x hx => by
    obtain ⟨i, hi', rfl⟩ := List.mem_map.1 hx
    exact List.mem_range.2 (h i (List.mem_range.1 hi')))
  simpa using this
/-- Each piece has its mirrored one. -/
theorem mir_find {W H : Nat} {P : Nat → Nat → Bool} {fs gs : List (Nat × Nat)} {l r : List Pc} (hp : Pcs (Bk W H P) fs l) (hg : Firsts (Bk W H (mirQ W P)) gs) (hr : Pcs (Bk W H (mirQ W P)) gs r) {i : Nat} (hi : i < l.length) : ∃ k, ∃ h : k < r.length, same r[k] (mirP W l[i]) := by
  obtain ⟨f, ef, pf⟩ := hp.at (List.getElem?_eq_getElem hi)
  have hin := pcs_in hp (List.getElem_mem hi)
  have pm := mir_isPc pf hin.2.2.1
  obtain ⟨q, hq, _⟩ := pm.l
  obtain ⟨g0, hg0, hpc⟩ := exists_first _ _ rfl hq.left
  obtain ⟨k, hk, ek⟩ := List.getElem_of_mem ((hg.mem g0).2 hg0)
  have hlen := hr.length
  refine ⟨k, by omega, ?_⟩
  obtain ⟨g, eg, pg⟩ := hr.at (List.getElem?_eq_getElem (show k < r.length by omega))
  obtain ⟨_, e2⟩ := List.getElem?_eq_some_iff.1 eg
  rw [ek] at e2
  subst e2
  exact pg.uniq (pm.move hpc)
theorem mir_mir (W : Nat) (P : Nat → Nat → Bool) (H : Nat) : ∀ x y, x < W → y < H → mirQ W (mirQ W P) x y = P x y := by
  intro x y hx _
  unfold mirQ
  rw [show W - 1 - (W - 1 - x) = x by omega]
theorem mir_le {W H : Nat} {P : Nat → Nat → Bool} {fs gs : List (Nat × Nat)} {l r : List Pc} (hf : Firsts (Bk W H P) fs) (hp : Pcs (Bk W H P) fs l) (hg : Firsts (Bk W H (mirQ W P)) gs) (hr : Pcs (Bk W H (mirQ W P)) gs r) :
    ∃ σ : Nat → Nat, (∀ i (h : i < l.length), ∃ h' : σ i < r.length, same r[σ i] (mirP W l[i])) ∧ (∀ i j, i < l.length → j < l.length → σ i = σ j → i = j) := by
  refine ⟨fun i => if h : i < l.length then (mir_find hp hg hr h).choose else 0, ?_, ?_⟩
  · intro i h
    simp only [dif_pos h]
    exact (mir_find hp hg hr h).choose_spec
  · intro i j h h' e
    simp only [dif_pos h, dif_pos h'] at e
    obtain ⟨a, b⟩ := (mir_find hp hg hr h).choose_spec
    obtain ⟨c, d⟩ := (mir_find hp hg hr h').choose_spec
    refine same_one hf hp h h' (mir_same (pcs_in hp (List.getElem_mem h)).2.2.1 (pcs_in hp (List.getElem_mem h')).2.2.1 (b.symm.trans ?_))
    simp only [e]
    exact d
theorem Bk_congr {W H : Nat} {P Q : Nat → Nat → Bool} (h : ∀ x y, x < W → y < H → P x y = Q x y) : Bk W H P = Bk W H Q := by
  funext p
  unfold Bk
  refine propext ⟨fun ⟨a, b, c⟩ => ⟨a, b, by rw [← h _ _ a b]; exact c⟩, fun ⟨a, b, c⟩ => ⟨a, b, by rw [h _ _ a b]; exact c⟩⟩
theorem mir_len {W H : Nat} {P : Nat → Nat → Bool} {fs gs : List (Nat × Nat)} {l r : List Pc} (hf : Firsts (Bk W H P) fs) (hp : Pcs (Bk W H P) fs l) (hg : Firsts (Bk W H (mirQ W P)) gs) (hr : Pcs (Bk W H (mirQ W P)) gs r) : l.length = r.length := by
  obtain ⟨σ, h1, h2⟩ := mir_le hf hp hg hr
  have a := inj_le σ (fun i h => (h1 i h).1) h2
  rw [← Bk_congr (mir_mir W P H)] at hf hp
  obtain ⟨τ, h3, h4⟩ := mir_le hg hr hf hp
  have b := inj_le τ (fun i h => (h3 i h).1) h4
  omega

end Go.Proofs.Ytgpciopoionmeaa
