/- 'withoutLast', of pages and of steps; sizes; what a document tells of itself. -/
import Derived.Test.YtpblenebmjmijaaDa
import Derived.BigFrame
namespace Go.Proofs.Ytpblenebmjmijaa
set_option maxRecDepth 100000
open Go.RowKit

/-- 'clear' of a slice of one element of one cell, whatever the element's zero is made of. -/
theorem clear_one {P : Program} (w : World) (t e ty : TypeId) (z u : Value) (ht : P.underlying t = some (.slice e)) (hv : ∀ w, (zeroValue e).run P w = .ok z w) (hz : z.cells = #[u]) (h1 : u.oneCell' = true) (b o c : Nat)
    (hc : (w.cell? ⟨b, o, none⟩).isSome = true) (hf : w.frozen? ⟨b, o, none⟩ = false) :
    (Builtin.clear_ #[t] ty #[.slice (some ⟨b, o, none⟩) 1 c]).run P w = .ok (.tuple #[]) (w.setCell ⟨b, o, none⟩ u) := by
  have hzc : (Builtin.zeroCells z.cells 1).toList = [u] := by rw [hz]; simp [Builtin.zeroCells]
  have hst := run_storeCells_cells (P := P) b o [u] 0 w (by intro j hj; simp at hj; subst hj; simpa using hc) (by intro j hj; simp at hj; subst hj; simpa using hf) (by intro v hv'; simp at hv'; subst hv'; exact h1)
  simp only [Nat.add_zero, World.setCells] at hst
  simp [Builtin.clear_, run_underlying ht, hv, hzc, hst]

theorem zero38 (w : World) : (zeroValue 57).run Try.prog w = .ok (.pointer none) w := by kernel_rfl
theorem zero44 (w : World) : (zeroValue 63).run Try.prog w = .ok (.agg #[.nilFunc]) w := by kernel_rfl

/-- A row of one cell each that is one shorter: the cell behind it is another. -/
theorem row_dropped {w : World} {base n g cap : Nat} {e : TypeId} {xs : List Value} {x u : Value} (h : w.ownsRow base e 1 (.slice (some ⟨g, 0, none⟩) (n + 1) cap) (n + 1) (xs ++ [x])) :
    (w.setCell ⟨g, n, none⟩ u).ownsRow base e 1 (.slice (some ⟨g, 0, none⟩) n cap) n xs := by
  have hs := (h.stored n u).1
  have hl : xs.length = n := by have := h.1; simp at this; omega
  refine ⟨by omega, Or.inr ?_⟩
  rcases hs.2 with ⟨e1, _⟩ | ⟨g', c', cur, e1, h1, h2, h3, h4, h5, h6⟩
  · cases e1
  · simp only [Value.slice.injEq, Option.some.injEq, Addr.mk.injEq] at e1
    obtain ⟨⟨rfl, _⟩, _, rfl⟩ := e1
    refine ⟨g, cap, cur, rfl, h1, h2, by omega, h4, h5, ?_⟩
    rw [Nat.mul_one] at h6 ⊢
    have e2 := congrArg (List.take n) h6
    rw [List.take_take, Nat.min_eq_left (by omega), List.take_set_of_le (Nat.le_refl n), List.take_append_of_le_length (by omega), List.take_of_length_le (l := xs) (by omega)] at e2
    exact e2

set_option maxHeartbeats 1000000 in
theorem without_pages (base n g cap : Nat) (xs : List Value) (x : Value) (w : World) (h : w.ownsRow base 57 1 (.slice (some ⟨g, 0, none⟩) (n + 1) cap) (n + 1) (xs ++ [x])) :
    Calls Try.prog 20 #[.slice (some ⟨g, 0, none⟩) (n + 1) cap] w fun e w' => e = .returned (.slice (some ⟨g, 0, none⟩) n cap) ∧ w' = w.setCell ⟨g, n, none⟩ (.pointer none) := by
  have hl : xs.length = n := by have := h.1; simp at this; omega
  have hc : (w.cell? ⟨g, n, none⟩).isSome = true := by
    rw [h.cellAt n (by omega), List.getElem?_eq_getElem (by simp; omega)]; rfl
  have hf : w.frozen? ⟨g, n, none⟩ = false := h.frozenAt n
  obtain ⟨hn, hm⟩ : n + 1 ≤ cap ∧ cap ≤ maxLen := by
    rcases h.2 with ⟨e1, _⟩ | ⟨g', c', cur, e1, h1, h2, h3, h4, h5, h6⟩
    · cases e1
    · simp only [Value.slice.injEq] at e1
      obtain ⟨_, _, rfl⟩ := e1
      exact ⟨h3, h4⟩
  have hcl : ∀ ty, (Builtin.clear_ #[48] ty #[.slice (some ⟨g, n, none⟩) 1 (cap - n)]).run Try.prog w = .ok (.tuple #[]) (w.setCell ⟨g, n, none⟩ (.pointer none)) :=
    fun ty => clear_one w 48 57 ty (.pointer none) (.pointer none) Try.underlying48 zero38 rfl rfl g n (cap - n) hc hf
  have hw : wrap64 (n : Int) = n := by unfold maxLen at hm; unfold wrap64; omega
  have hk : n + 1 - n = 1 := by omega
  have hcn : ¬ cap = n := by omega
  clear hc hf h hl
  unfold maxLen at hm
  go_enter Try.func20, Try.ntmps20
  go_wp2_with (simp only [hcl])
  go_ret
  exact ⟨rfl, rfl⟩
set_option maxHeartbeats 1000000 in
theorem without_steps (base n g cap : Nat) (xs : List Value) (x : Value) (w : World) (h : w.ownsRow base 63 1 (.slice (some ⟨g, 0, none⟩) (n + 1) cap) (n + 1) (xs ++ [x])) :
    Calls Try.prog 38 #[.slice (some ⟨g, 0, none⟩) (n + 1) cap] w fun e w' => e = .returned (.slice (some ⟨g, 0, none⟩) n cap) ∧ w' = w.setCell ⟨g, n, none⟩ .nilFunc := by
  have hl : xs.length = n := by have := h.1; simp at this; omega
  have hc : (w.cell? ⟨g, n, none⟩).isSome = true := by
    rw [h.cellAt n (by omega), List.getElem?_eq_getElem (by simp; omega)]; rfl
  have hf : w.frozen? ⟨g, n, none⟩ = false := h.frozenAt n
  obtain ⟨hn, hm⟩ : n + 1 ≤ cap ∧ cap ≤ maxLen := by
    rcases h.2 with ⟨e1, _⟩ | ⟨g', c', cur, e1, h1, h2, h3, h4, h5, h6⟩
    · cases e1
    · simp only [Value.slice.injEq] at e1
      obtain ⟨_, _, rfl⟩ := e1
      exact ⟨h3, h4⟩
  have hcl : ∀ ty, (Builtin.clear_ #[49] ty #[.slice (some ⟨g, n, none⟩) 1 (cap - n)]).run Try.prog w = .ok (.tuple #[]) (w.setCell ⟨g, n, none⟩ .nilFunc) :=
    fun ty => clear_one w 49 63 ty (.agg #[.nilFunc]) .nilFunc Try.underlying49 zero44 rfl rfl g n (cap - n) hc hf
  have hw : wrap64 (n : Int) = n := by unfold maxLen at hm; unfold wrap64; omega
  have hk : n + 1 - n = 1 := by omega
  have hcn : ¬ cap = n := by omega
  clear hc hf h hl
  unfold maxLen at hm
  go_enter Try.func38, Try.ntmps38
  go_wp2_with (simp only [hcl])
  go_ret
  exact ⟨rfl, rfl⟩
end Go.Proofs.Ytpblenebmjmijaa
