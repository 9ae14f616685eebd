/- Plain mathematics: of two bitmaps one below the other the pieces are those of both. -/
import Derived.Test.YtgpciopoionmeaaSp
namespace Go.Proofs.Ytgpciopoionmeaa
open Go.RowKit

/-- B: what B1 has, and, s rows further down, what B2 has; a white row between. -/
structure Two (B B1 B2 : Nat × Nat → Prop) (s : Nat) : Prop where
  iff : ∀ p, B p ↔ B1 p ∨ (s ≤ p.2 ∧ B2 (p.1, p.2 - s))
  up : ∀ p, B1 p → p.2 + 1 < s
def dn (s : Nat) (p : Nat × Nat) : Nat × Nat := (p.1, p.2 + s)
def pdn (s : Nat) (p : Pc) : Pc := { p with Y := p.Y + s }
section
variable {B B1 B2 : Nat × Nat → Prop} {s : Nat}
theorem Two.one (T : Two B B1 B2 s) {p q : Nat × Nat} (h : PC B p q) (hp : B1 p) : PC B1 p q := by
  induction h with
  | refl _ => exact .refl hp
  | step _ hn hb ih =>
    rcases (T.iff _).1 hb with h1 | ⟨h1, _⟩
    · exact ih.step hn h1
    · have := T.up _ ih.right
      have := hn.2.2.2
      omega
theorem Two.two (T : Two B B1 B2 s) {p q : Nat × Nat} (h : PC B p q) (hp : s ≤ p.2) : s ≤ q.2 ∧ PC B2 (p.1, p.2 - s) (q.1, q.2 - s) := by
  have key : ∀ {r}, B r → s ≤ r.2 → B2 (r.1, r.2 - s) := fun {r} hb hs => by
    rcases (T.iff _).1 hb with h1 | ⟨_, h1⟩
    · have := T.up _ h1; omega
    · exact h1
  induction h with
  | refl hb => exact ⟨hp, .refl (key hb hp)⟩
  | step _ hn hb ih =>
    have hs : s ≤ _ := ih.1
    rcases (T.iff _).1 hb with h1 | ⟨h1, h2⟩
    · have := T.up _ h1
      have := hn.2.2.1
      omega
    · refine ⟨h1, ih.2.step ?_ h2⟩
      obtain ⟨a, b, c, d⟩ := hn
      exact ⟨a, b, by simp only; omega, by simp only; omega⟩
theorem Two.pc1 (T : Two B B1 B2 s) {p q : Nat × Nat} (hp : B1 p) : PC B p q ↔ PC B1 p q :=
  ⟨fun h => T.one h hp, fun h => h.mono (fun r hr => (T.iff r).2 (Or.inl hr))⟩
theorem Two.bdn (T : Two B B1 B2 s) {p : Nat × Nat} (h : B2 p) : B (dn s p) := (T.iff _).2 (Or.inr ⟨by unfold dn; simp only; omega, by unfold dn; simp only; rwa [show p.2 + s - s = p.2 by omega]⟩)
theorem Two.pc2 (T : Two B B1 B2 s) {p q : Nat × Nat} : PC B (dn s p) q ↔ s ≤ q.2 ∧ PC B2 p (q.1, q.2 - s) := by
  constructor
  · intro h
    have := T.two h (by unfold dn; simp only; omega)
    refine ⟨this.1, ?_⟩
    have h2 := this.2
    unfold dn at h2
    simp only at h2
    rwa [show p.2 + s - s = p.2 by omega] at h2
  · rintro ⟨h1, h2⟩
    have := PC.map (B' := B) (dn s) (fun r hr => T.bdn hr) (fun r t _ _ hn => by unfold nb dn at *; simp only; omega) h2
    have e : dn s (q.1, q.2 - s) = q := by unfold dn; exact Prod.ext rfl (by simp only; omega)
    rwa [e] at this
theorem Two.first1 (T : Two B B1 B2 s) {p : Nat × Nat} (hp : B1 p) : First B p ↔ First B1 p := by
  constructor
  · rintro ⟨_, h⟩; exact ⟨hp, fun q hq => h q ((T.pc1 hp).2 hq)⟩
  · rintro ⟨_, h⟩; exact ⟨(T.iff p).2 (Or.inl hp), fun q hq => h q ((T.pc1 hp).1 hq)⟩
theorem Two.first2 (T : Two B B1 B2 s) {p : Nat × Nat} (hp : B2 p) : First B (dn s p) ↔ First B2 p := by
  constructor
  · rintro ⟨_, h⟩
    refine ⟨hp, fun q hq hr => h (dn s q) (T.pc2.2 ⟨by unfold dn; simp only; omega, ?_⟩) ?_⟩
    · unfold dn; simp only; rwa [show q.2 + s - s = q.2 by omega]
    · unfold ras dn at *; simp only; omega
  · rintro ⟨_, h⟩
    refine ⟨T.bdn hp, fun q hq hr => ?_⟩
    obtain ⟨h1, h2⟩ := T.pc2.1 hq
    refine h _ h2 ?_
    unfold ras dn at *; simp only at *; omega
theorem Two.firsts (T : Two B B1 B2 s) {f1 f2 : List (Nat × Nat)} (h1 : Firsts B1 f1) (h2 : Firsts B2 f2) : Firsts B (f1 ++ f2.map (dn s)) := by
  constructor
  · rw [List.pairwise_append]
    refine ⟨h1.sorted, ?_, fun a ha b hb => ?_⟩
    · rw [List.pairwise_map]
      refine h2.sorted.imp (fun {a b} h => ?_)
      unfold ras dn at *; simp only; omega
    · obtain ⟨b', _, rfl⟩ := List.mem_map.1 hb
      have := T.up _ ((h1.mem a).1 ha).1
      left; unfold dn; simp only; omega
  · intro p
    rw [List.mem_append, List.mem_map]
    constructor
    · rintro (h | ⟨q, hq, rfl⟩)
      · have := (h1.mem p).1 h
        exact (T.first1 this.1).2 this
      · have := (h2.mem q).1 hq
        exact (T.first2 this.1).2 this
    · intro hf
      rcases (T.iff p).1 hf.1 with hb | ⟨hs, hb⟩
      · exact Or.inl ((h1.mem p).2 ((T.first1 hb).1 hf))
      · have e : dn s (p.1, p.2 - s) = p := by unfold dn; exact Prod.ext rfl (by simp only; omega)
        refine Or.inr ⟨(p.1, p.2 - s), (h2.mem _).2 ((T.first2 hb).1 (by rw [e]; exact hf)), e⟩
theorem Two.is1 (T : Two B B1 B2 s) {f : Nat × Nat} {p : Pc} (h : IsPc B1 f p) : IsPc B f p := by
  have hf : B1 f := by obtain ⟨q, hq, _⟩ := h.l; exact hq.left
  refine ⟨fun x y hx hy => ?_, fun q hq => h.box q ((T.pc1 hf).1 hq), ?_, ?_, ?_, ?_⟩
  · rw [h.pix x y hx hy, T.pc1 hf]
  · obtain ⟨q, hq, e⟩ := h.l; exact ⟨q, (T.pc1 hf).2 hq, e⟩
  · obtain ⟨q, hq, e⟩ := h.r; exact ⟨q, (T.pc1 hf).2 hq, e⟩
  · obtain ⟨q, hq, e⟩ := h.t; exact ⟨q, (T.pc1 hf).2 hq, e⟩
  · obtain ⟨q, hq, e⟩ := h.b; exact ⟨q, (T.pc1 hf).2 hq, e⟩
theorem Two.is2 (T : Two B B1 B2 s) {f : Nat × Nat} {p : Pc} (h : IsPc B2 f p) : IsPc B (dn s f) (pdn s p) := by
  have back : ∀ {q}, PC B2 f q → PC B (dn s f) (dn s q) := fun {q} hq => T.pc2.2 ⟨by unfold dn; simp only; omega, by unfold dn; simp only; rwa [show q.2 + s - s = q.2 by omega]⟩
  refine ⟨fun x y hx hy => ?_, fun q hq => ?_, ?_, ?_, ?_, ?_⟩
  · show p.Q x y = true ↔ PC B (dn s f) (p.X + x, p.Y + s + y)
    rw [h.pix x y hx hy, T.pc2]
    simp only
    rw [show p.Y + s + y - s = p.Y + y by omega]
    exact ⟨fun hh => ⟨by omega, hh⟩, fun hh => hh.2⟩
  · obtain ⟨h1, h2⟩ := T.pc2.1 hq
    have := h.box _ h2
    unfold pdn; simp only at *; omega
  · obtain ⟨q, hq, e⟩ := h.l; exact ⟨_, back hq, by unfold dn pdn; simp only; omega⟩
  · obtain ⟨q, hq, e⟩ := h.r; exact ⟨_, back hq, by unfold dn pdn; simp only; omega⟩
  · obtain ⟨q, hq, e⟩ := h.t; exact ⟨_, back hq, by unfold dn pdn; simp only; omega⟩
  · obtain ⟨q, hq, e⟩ := h.b; exact ⟨_, back hq, by unfold dn pdn; simp only; omega⟩
theorem Two.pcs (T : Two B B1 B2 s) {f1 f2 : List (Nat × Nat)} {l1 l2 : List Pc} (h1 : Pcs B1 f1 l1) (h2 : Pcs B2 f2 l2) : Pcs B (f1 ++ f2.map (dn s)) (l1 ++ l2.map (pdn s)) := by
  induction h1 with
  | nil =>
    simp only [List.nil_append]
    induction h2 with
    | nil => exact .nil
    | cons a _ ih => exact .cons (T.is2 a) ih
  | cons a _ ih => exact .cons (T.is1 a) ih
end
theorem Same.at {l m : List Pc} (h : Same l m) : l.length = m.length ∧ ∀ (i : Nat) (h1 : i < l.length) (h2 : i < m.length), same l[i] m[i] := by
  induction h with
  | nil => exact ⟨rfl, fun i h1 => absurd h1 (Nat.not_lt_zero _)⟩
  | cons a _ ih =>
    refine ⟨by simp [ih.1], fun i h1 h2 => ?_⟩
    cases i with
    | zero => exact a
    | succ i => exact ih.2 i (by simpa using h1) (by simpa using h2)
/-- A piece moved down. -/
def mvP (s : Nat) (q : PV) : PV := (pdn s q.1, q.2)
theorem map_mv (s : Nat) (L : List PV) : (L.map (mvP s)).map (·.1) = (L.map (·.1)).map (pdn s) := by
  rw [List.map_map, List.map_map]; rfl
/-- What 'EqPieces' asks. -/
theorem alike_of {L M : List PV} (h : Same (L.map (·.1)) (M.map (·.1))) : L.length = M.length ∧ ∀ (i : Nat) (h1 : i < L.length) (h2 : i < M.length), (rpOf L[i]).X = (rpOf M[i]).X ∧ (rpOf L[i]).Y = (rpOf M[i]).Y ∧ (rpOf L[i]).x = (rpOf M[i]).x ∧ (rpOf L[i]).y = (rpOf M[i]).y ∧ (rpOf L[i]).l = (rpOf M[i]).l := by
  obtain ⟨a, b⟩ := h.at
  rw [List.length_map, List.length_map] at a
  refine ⟨a, fun i h1 h2 => ?_⟩
  obtain ⟨c1, c2, c3, c4, c5⟩ := b i (by rw [List.length_map]; exact h1) (by rw [List.length_map]; exact h2)
  rw [List.getElem_map, List.getElem_map] at c1 c2 c3 c4 c5
  unfold rpOf
  simp only
  rw [c1, c2, c3, c4]
  refine ⟨rfl, rfl, rfl, rfl, ?_⟩
  exact render_congr (fun x y hx hy => c5 x y (by omega) (by omega))

end Go.Proofs.Ytgpciopoionmeaa
