/- Plain mathematics: the snake, the board and the dots of the law 'CompsRing'. -/
import Derived.Test.YtgpciopoionmeabRa
namespace Go.Proofs.Ytgpciopoionmeab
open Go.RowKit

def snP : Nat → Nat → Bool := fun x y => decide (y % 2 = 0) || (decide (y % 4 = 1) && decide (x = 199)) || (decide (y % 4 = 3) && decide (x = 0))
def bdP : Nat → Nat → Bool := fun x y => decide ((x + y) % 2 = 1)
def dtP : Nat → Nat → Bool := fun x y => decide (x % 2 = 0) && decide (y % 2 = 0)
theorem sn_black {p : Nat × Nat} : Bk 200 201 snP p ↔ p.1 < 200 ∧ p.2 < 201 ∧ (p.2 % 2 = 0 ∨ (p.2 % 4 = 1 ∧ p.1 = 199) ∨ (p.2 % 4 = 3 ∧ p.1 = 0)) := by
  unfold Bk snP
  simp only [Bool.or_eq_true, Bool.and_eq_true, decide_eq_true_eq]
  omega
theorem bd_black {p : Nat × Nat} : Bk 150 150 bdP p ↔ p.1 < 150 ∧ p.2 < 150 ∧ (p.1 + p.2) % 2 = 1 := by
  unfold Bk bdP
  simp only [decide_eq_true_eq]
theorem dt_black {p : Nat × Nat} : Bk 100 100 dtP p ↔ p.1 < 100 ∧ p.2 < 100 ∧ p.1 % 2 = 0 ∧ p.2 % 2 = 0 := by
  unfold Bk dtP
  simp only [Bool.and_eq_true, decide_eq_true_eq]

theorem one_pcs {W H : Nat} {P : Nat → Nat → Bool} {f0 : Nat × Nat} (h0 : Bk W H P f0) (hc : ∀ q, Bk W H P q → PC (Bk W H P) f0 q) {fs : List (Nat × Nat)} {l : List Pc} (hf : Firsts (Bk W H P) fs) (hp : Pcs (Bk W H P) fs l) : ∃ m f, l = [m] ∧ PC (Bk W H P) f0 f ∧ IsPc (Bk W H P) f m := by
  obtain ⟨f, hff, _⟩ := exists_first _ _ rfl h0
  have hall : ∀ q, Bk W H P q → PC (Bk W H P) f q := fun q hq => (hc f hff.1).symm.trans (hc q hq)
  have hfs : fs = [f] := by
    refine sorted_uniq hf.sorted (by simp) (fun g => ?_)
    rw [hf.mem]
    constructor
    · intro hg
      rw [List.mem_singleton]
      exact (first_uniq hff hg (hall g hg.1)).symm
    · intro hg
      rw [List.mem_singleton] at hg
      rw [hg]; exact hff
  subst hfs
  have hl := hp.length
  match l, hl with
  | [m], _ =>
    refine ⟨m, f, rfl, hc f hff.1, ?_⟩
    cases hp with
    | cons a _ => exact a

theorem sn_row (y : Nat) (hy : y < 201) (he : y % 2 = 0) : ∀ x, x < 200 → PC (Bk 200 201 snP) (0, y) (x, y)
  | 0, _ => .refl (sn_black.2 ⟨by simp only; omega, hy, .inl he⟩)
  | x + 1, hx => (sn_row y hy he x (by omega)).step (by unfold nb; simp only; omega) (sn_black.2 ⟨hx, hy, .inl he⟩)
theorem sn_down : ∀ k, 2 * k < 201 → PC (Bk 200 201 snP) (0, 0) (0, 2 * k)
  | 0, _ => .refl (sn_black.2 ⟨by decide, by decide, .inl rfl⟩)
  | k + 1, hk => by
    have ih := sn_down k (by omega)
    by_cases e : k % 2 = 0
    · have a := ih.trans (sn_row (2 * k) (by omega) (by omega) 199 (by decide))
      have b := a.step (r := (199, 2 * k + 1)) (by unfold nb; simp only; omega) (sn_black.2 ⟨by simp only; omega, by simp only; omega, .inr (.inl ⟨by simp only; omega, rfl⟩)⟩)
      have c := b.step (r := (199, 2 * (k + 1))) (by unfold nb; simp only; omega) (sn_black.2 ⟨by simp only; omega, by simp only; omega, .inl (by simp only; omega)⟩)
      exact c.trans (sn_row (2 * (k + 1)) (by omega) (by omega) 199 (by decide)).symm
    · have b := ih.step (r := (0, 2 * k + 1)) (by unfold nb; simp only; omega) (sn_black.2 ⟨by simp only; omega, by simp only; omega, .inr (.inr ⟨by simp only; omega, rfl⟩)⟩)
      exact b.step (r := (0, 2 * (k + 1))) (by unfold nb; simp only; omega) (sn_black.2 ⟨by simp only; omega, by simp only; omega, .inl (by simp only; omega)⟩)
theorem sn_all (q : Nat × Nat) (hq : Bk 200 201 snP q) : PC (Bk 200 201 snP) (0, 0) q := by
  obtain ⟨x, y⟩ := q
  obtain ⟨hx, hy, h⟩ := sn_black.1 hq
  simp only at hx hy h
  by_cases e : y % 2 = 0
  · have a := sn_down (y / 2) (by omega)
    rw [show 2 * (y / 2) = y by omega] at a
    exact a.trans (sn_row y hy e x hx)
  · have a := sn_down (y / 2) (by omega)
    have b := a.trans (sn_row (2 * (y / 2)) (by omega) (by omega) x hx)
    exact b.step (by unfold nb; simp only; omega) hq
theorem bd_row : ∀ k, 2 * k + 1 < 150 → PC (Bk 150 150 bdP) (1, 0) (2 * k + 1, 0)
  | 0, _ => .refl (bd_black.2 ⟨by decide, by decide, rfl⟩)
  | k + 1, hk => by
    have a := (bd_row k (by omega)).step (r := (2 * k + 2, 1)) (by unfold nb; simp only; omega) (bd_black.2 ⟨by simp only; omega, by simp only; omega, by simp only; omega⟩)
    exact a.step (by unfold nb; simp only; omega) (bd_black.2 ⟨by simp only; omega, by simp only; omega, by simp only; omega⟩)
theorem bd_all : ∀ (y x : Nat), Bk 150 150 bdP (x, y) → PC (Bk 150 150 bdP) (1, 0) (x, y)
  | 0, x, hq => by
    obtain ⟨hx, hy, h⟩ := bd_black.1 hq
    simp only at hx hy h
    have a := bd_row (x / 2) (by omega)
    rwa [show 2 * (x / 2) + 1 = x by omega] at a
  | y + 1, x, hq => by
    obtain ⟨hx, hy, h⟩ := bd_black.1 hq
    simp only at hx hy h
    by_cases e : x + 1 < 150
    · exact (bd_all y (x + 1) (bd_black.2 ⟨e, by simp only; omega, by simp only; omega⟩)).step (by unfold nb; simp only; omega) hq
    · exact (bd_all y (x - 1) (bd_black.2 ⟨by simp only; omega, by simp only; omega, by simp only; omega⟩)).step (by unfold nb; simp only; omega) hq
theorem dt_eq {p q : Nat × Nat} (h : PC (Bk 100 100 dtP) p q) : p = q := by
  refine PC.inv id (fun a b ha hb hn => ?_) h
  have h1 := dt_black.1 ha
  have h2 := dt_black.1 hb
  unfold nb at hn
  obtain ⟨a1, a2⟩ := a
  obtain ⟨b1, b2⟩ := b
  simp only at h1 h2 hn
  simp only [id, Prod.mk.injEq]
  omega
def dtF : List (Nat × Nat) := (List.range 2500).map fun i => (2 * (i % 50), 2 * (i / 50))
theorem dt_firsts : Firsts (Bk 100 100 dtP) dtF := by
  constructor
  · unfold dtF
    rw [List.pairwise_map]
    refine List.Pairwise.imp ?_ List.pairwise_lt_range
    intro i j h
    unfold ras
    simp only
    omega
  · intro p
    unfold dtF
    rw [List.mem_map]
    constructor
    · rintro ⟨i, hi, rfl⟩
      rw [List.mem_range] at hi
      refine ⟨dt_black.2 ⟨by simp only; omega, by simp only; omega, by simp only; omega, by simp only; omega⟩, fun q hq => ?_⟩
      rw [← dt_eq hq]; exact ras_irrefl _
    · rintro ⟨hb, _⟩
      obtain ⟨h1, h2, h3, h4⟩ := dt_black.1 hb
      refine ⟨p.1 / 2 + 50 * (p.2 / 2), List.mem_range.2 (by omega), ?_⟩
      obtain ⟨a, b⟩ := p
      simp only at h1 h2 h3 h4
      simp only [Prod.mk.injEq]
      omega

theorem sn_pcs {fs : List (Nat × Nat)} {L : List PV} (hf : Firsts (Bk 200 201 snP) fs) (hp : Pcs (Bk 200 201 snP) fs (L.map (·.1))) : ∃ q : PV, L = [q] ∧ q.1.W = 200 ∧ q.1.H = 201 ∧ ∀ x y, x < 200 → y < 201 → q.1.Q x y = snP x y := by
  have h0 : Bk 200 201 snP (0, 0) := sn_black.2 ⟨by decide, by decide, .inl rfl⟩
  obtain ⟨m, f, hm, hcf, hi⟩ := one_pcs h0 sn_all hf hp
  match L, hm with
  | [q], hm =>
    have e : q.1 = m := by simpa using hm
    subst e
    have hall : ∀ r, Bk 200 201 snP r → PC (Bk 200 201 snP) f r := fun r hr => hcf.symm.trans (sn_all r hr)
    have hb : IsPc (Bk 200 201 snP) f ⟨0, 0, 200, 201, snP⟩ := by
      constructor
      · intro x y hx hy
        simp only at hx hy
        simp only [Nat.zero_add]
        constructor
        · intro hq; exact hall _ ⟨hx, hy, hq⟩
        · intro hq; exact hq.right.2.2
      · intro r hr
        have := hr.right
        unfold Bk at this
        simp only
        omega
      · exact ⟨_, hall _ h0, rfl⟩
      · exact ⟨(199, 0), hall _ (sn_black.2 ⟨by decide, by decide, .inl rfl⟩), rfl⟩
      · exact ⟨_, hall _ h0, rfl⟩
      · exact ⟨(0, 200), hall _ (sn_black.2 ⟨by decide, by decide, .inl rfl⟩), rfl⟩
    obtain ⟨_, _, c, d, e⟩ := hi.uniq hb
    simp only at c d e
    rw [c, d] at e
    exact ⟨q, rfl, c, d, e⟩
theorem bd_pcs {fs : List (Nat × Nat)} {L : List PV} (hf : Firsts (Bk 150 150 bdP) fs) (hp : Pcs (Bk 150 150 bdP) fs (L.map (·.1))) : L.length = 1 := by
  obtain ⟨m, f, hm, _⟩ := one_pcs (f0 := (1, 0)) (bd_black.2 ⟨by decide, by decide, rfl⟩) (fun q hq => bd_all q.2 q.1 hq) hf hp
  have := congrArg List.length hm
  simpa using this
set_option maxRecDepth 100000 in
theorem dt_pcs {fs : List (Nat × Nat)} {L : List PV} (hf : Firsts (Bk 100 100 dtP) fs) (hp : Pcs (Bk 100 100 dtP) fs (L.map (·.1))) : L.length = 2500 ∧ ∀ h : 51 < L.length, L[51].1.X = 2 ∧ L[51].1.Y = 2 := by
  have e := hf.uniq dt_firsts
  subst e
  have hl := hp.length
  rw [List.length_map] at hl
  refine ⟨by rw [hl]; unfold dtF; rw [List.length_map, List.length_range], fun h => ?_⟩
  obtain ⟨f, hfe, hi⟩ := hp.at (k := 51) (p := L[51].1) (by rw [List.getElem?_map, List.getElem?_eq_getElem h]; rfl)
  have hfe2 : f = (2, 2) := by
    unfold dtF at hfe
    rw [List.getElem?_map, List.getElem?_range (by decide)] at hfe
    simpa using hfe.symm
  obtain ⟨q, hq, ex⟩ := hi.l
  obtain ⟨r, hr, ey⟩ := hi.t
  have e1 := dt_eq hq
  have e2 := dt_eq hr
  rw [hfe2] at e1 e2
  rw [← e1] at ex
  rw [← e2] at ey
  exact ⟨ex.symm, ey.symm⟩

end Go.Proofs.Ytgpciopoionmeab
