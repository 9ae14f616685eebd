/- Segments' headers: a Var in a part is that of the whole; the reader's 'number' and 'kind'. -/
import Derived.Test.YtamonbkhpbdojaaDoorSb
namespace Go.Proofs.YtamonbkhpbdojaaDoor
set_option maxRecDepth 100000
open Go.RowKit

theorem num_at (l : List Nat) (j : Nat) (hb : ∀ x ∈ l, x < 256) (h : j < l.length) : num (nextBits l (8 * j) 8) = l[j]?.getD 0 := by
  have e : l = l.take j ++ (l[j] :: l.drop (j + 1)) := by rw [List.getElem_cons_drop, List.take_append_drop]
  have hx : l[j] < 256 := hb _ (List.getElem_mem h)
  rw [List.getElem?_eq_getElem h, Option.getD_some]
  have hf : unpack l = flat (l.take j) ++ (bitsOf l[j] 8 ++ flat (l.drop (j + 1))) := by
    rw [unpack_flat, ← flat_cons, ← flat_append, ← e]
  unfold nextBits
  rw [hf, List.drop_left' (by rw [flat_length, List.length_take]; omega), List.take_left' (length_bitsOf _ _), num_byte _ hx]

theorem rvarF_part (l : List Nat) (a : Nat) (hb : ∀ x ∈ l, x < 256) : ∀ (f place n : Nat), place + f = 10 →
    rvarF l f place n (8 * (a + place)) = ((rvarF (pt l a 10) f place n (8 * place)).1, (rvarF (pt l a 10) f place n (8 * place)).2.1, (rvarF (pt l a 10) f place n (8 * place)).2.2 + 8 * a) := by
  intro f
  induction f with
  | zero => intro place n h; simp only [rvarF]; rw [Nat.mul_add]; simp; omega
  | succ f ih =>
    intro place n h
    have hlen := length_pt l a 10
    by_cases h1 : 8 * l.length < 8 * (a + place) + 8
    · have h1' : 8 * (pt l a 10).length < 8 * place + 8 := by omega
      rw [rvarF_end l f place n _ h1, rvarF_end (pt l a 10) f place n _ h1']
      simp; omega
    · have h1' : ¬ 8 * (pt l a 10).length < 8 * place + 8 := by omega
      have e1 := num_at l (a + place) hb (by omega)
      have e2 := num_at (pt l a 10) place (pt_lt a 10 hb) (by omega)
      rw [pt_get l a 10 place (by omega)] at e2
      by_cases h2 : place = 9 ∧ 1 < l[a + place]?.getD 0 ∨ 0 < place ∧ l[a + place]?.getD 0 = 0
      · rw [rvarF_form l f place n _ h1 (by rw [e1]; exact h2), rvarF_form (pt l a 10) f place n _ h1' (by rw [e2]; exact h2)]
        simp; omega
      · by_cases h3 : l[a + place]?.getD 0 < 128
        · rw [rvarF_last l f place n _ h1 (by rw [e1]; exact h2) (by rw [e1]; exact h3), rvarF_last (pt l a 10) f place n _ h1' (by rw [e2]; exact h2) (by rw [e2]; exact h3), e1, e2]
          simp; omega
        · rw [rvarF_more l f place n _ h1 (by rw [e1]; exact h2) (by rw [e1]; exact h3), rvarF_more (pt l a 10) f place n _ h1' (by rw [e2]; exact h2) (by rw [e2]; exact h3), e1, e2]
          have := ih (place + 1) (n + l[a + place]?.getD 0 % 128 * 2 ^ (7 * place)) (by omega)
          rw [show 8 * (a + (place + 1)) = 8 * (a + place) + 8 by omega, show 8 * (place + 1) = 8 * place + 8 by omega] at this
          exact this
theorem rvar_part (l : List Nat) (a : Nat) (hb : ∀ x ∈ l, x < 256) : rvar l (8 * a) = ((rvar (pt l a 10) 0).1, (rvar (pt l a 10) 0).2.1, (rvar (pt l a 10) 0).2.2 + 8 * a) := rvarF_part l a hb 10 0 0 rfl

theorem rvarF_er (l : List Nat) : ∀ (f place n p : Nat), (rvarF l f place n p).2.1 = 0 ∨ (rvarF l f place n p).2.1 = 14 ∨ (rvarF l f place n p).2.1 = 16 := by
  intro f
  induction f with
  | zero => intro place n p; simp [rvarF]
  | succ f ih =>
    intro place n p
    simp only [rvarF]
    split
    · simp
    · split
      · simp
      · split
        · simp
        · exact ih _ _ _
theorem rvar_er (l : List Nat) (p : Nat) : (rvar l p).2.1 = 0 ∨ (rvar l p).2.1 = 14 ∨ (rvar l p).2.1 = 16 := rvarF_er l 10 0 0 p
theorem rvarF_lt (l : List Nat) : ∀ (f place n p : Nat), place + f = 10 → n < 2 ^ (7 * place) → (rvarF l f place n p).1 < 18446744073709551616 := by
  intro f
  induction f with
  | zero => intro place n p _ _; simp [rvarF]
  | succ f ih =>
    intro place n p h hn
    have hg := place_pow n (num (nextBits l p 8)) place hn
    have key : ¬ (place = 9 ∧ 1 < num (nextBits l p 8)) → n + num (nextBits l p 8) % 128 * 2 ^ (7 * place) < 18446744073709551616 := by
      intro hk
      by_cases h9 : place = 9
      · subst h9
        have h1 : num (nextBits l p 8) ≤ 1 := by omega
        have : num (nextBits l p 8) % 128 ≤ 1 := by omega
        have h2 := Nat.mul_le_mul_right (2 ^ (7 * 9)) this
        have h3 : (2 : Nat) ^ (7 * 9) = 9223372036854775808 := by decide
        rw [h3] at h2 hn ⊢
        omega
      · have : 7 * (place + 1) ≤ 63 := by omega
        have := Nat.pow_le_pow_right (by omega : 0 < 2) this
        have h3 : (2 : Nat) ^ 63 = 9223372036854775808 := by decide
        omega
    simp only [rvarF]
    split
    · simp
    · split
      · simp
      · rename_i hne
        split
        · exact key (fun h => hne (Or.inl h))
        · exact ih _ _ _ (by omega) hg
theorem rvar_lt (l : List Nat) (p : Nat) : (rvar l p).1 < 18446744073709551616 := rvarF_lt l 10 0 0 p rfl (by decide)

/-- What 'number' reads at a place: the error, the number, the place behind it. -/
def numS (l : List Nat) (a lo hi : Nat) : Nat × Nat × Nat :=
  if (rvar l (8 * a)).2.1 = 14 then (163, 0, 0) else if (rvar l (8 * a)).2.1 = 0 ∧ lo ≤ (rvar l (8 * a)).1 ∧ (rvar l (8 * a)).1 ≤ hi then (0, (rvar l (8 * a)).1, (rvar l (8 * a)).2.2 / 8) else (161, 0, 0)
theorem numS_ok {l : List Nat} {a lo hi n a' : Nat} (h : numS l a lo hi = (0, n, a')) : rvar l (8 * a) = (n, 0, (rvar l (8 * a)).2.2) ∧ (rvar l (8 * a)).2.2 / 8 = a' ∧ lo ≤ n ∧ n ≤ hi := by
  unfold numS at h
  split at h
  · simp at h
  · split at h
    · rename_i h2
      simp only [Prod.mk.injEq, true_and] at h
      refine ⟨?_, h.2, by rw [← h.1]; exact h2.2.1, by rw [← h.1]; exact h2.2.2⟩
      rw [← h.1, ← h2.1]
    · simp at h
theorem numS_er (l : List Nat) (a lo hi : Nat) : (numS l a lo hi).1 = 0 ∨ (numS l a lo hi).1 = 163 ∨ (numS l a lo hi).1 = 161 := by
  unfold numS
  split
  · simp
  · split <;> simp
theorem numS_163 {l : List Nat} {a lo hi : Nat} (h : (numS l a lo hi).1 = 163) : (rvar l (8 * a)).2.1 = 14 := by
  unfold numS at h
  split at h
  · assumption
  · split at h <;> simp at h
theorem numS_161 {l : List Nat} {a lo hi : Nat} (h : (numS l a lo hi).1 = 161) : (rvar l (8 * a)).2.1 = 16 ∨ ((rvar l (8 * a)).2.1 = 0 ∧ ((rvar l (8 * a)).1 < lo ∨ hi < (rvar l (8 * a)).1)) := by
  unfold numS at h
  have := rvar_er l (8 * a)
  split at h
  · simp at h
  · split at h
    · simp at h
    · rename_i h1 h2
      rcases this with e | e | e
      · exact Or.inr ⟨e, by rcases Nat.lt_or_ge (rvar l (8 * a)).1 lo with h | h; · exact Or.inl h
                            · rcases Nat.lt_or_ge hi (rvar l (8 * a)).1 with h3 | h3; · exact Or.inr h3
                              · exact absurd ⟨e, h, h3⟩ h2⟩
      · exact absurd e h1
      · exact Or.inl e
end Go.Proofs.YtamonbkhpbdojaaDoor
