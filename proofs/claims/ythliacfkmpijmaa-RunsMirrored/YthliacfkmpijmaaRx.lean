/- What each run of a row is; how many pixels they have. -/
import Derived.Test.YthliacfkmpijmaaRm
import Derived.Test.YthliacfkmpijmaaCnt
namespace Go.Proofs.Ythliacfkmpijmaa

structure IsRun (f : Nat → Bool) (n : Nat) (r : Nat × Nat) : Prop where
  lt : r.1 < r.2
  le : r.2 ≤ n
  all : ∀ k, r.1 ≤ k → k < r.2 → f k = true
  left : r.1 = 0 ∨ f (r.1 - 1) = false
  right : r.2 = n ∨ f r.2 = false
theorem st_runs (f : Nat → Bool) : ∀ n, (∀ r ∈ (st f n).1, r.1 < r.2 ∧ r.2 < n ∧ (∀ k, r.1 ≤ k → k < r.2 → f k = true) ∧ (r.1 = 0 ∨ f (r.1 - 1) = false) ∧ f r.2 = false) ∧ (∀ a, (st f n).2 = some a → a < n ∧ (∀ k, a ≤ k → k < n → f k = true) ∧ (a = 0 ∨ f (a - 1) = false))
  | 0 => ⟨by simp [st], by simp [st]⟩
  | n + 1 => by
    obtain ⟨h1, h2⟩ := st_runs f n
    have ho := st_open f n
    have e : st f (n + 1) = stS f (st f n) n := rfl
    rw [e]; unfold stS
    cases k1 : (st f n).2 with
    | none =>
      cases k2 : f n
      · simp only
        refine ⟨fun r hr => ?_, by simp [k1]⟩
        obtain ⟨a, b, c⟩ := h1 r hr
        exact ⟨a, by omega, c⟩
      · simp only
        refine ⟨fun r hr => ?_, fun a ha => ?_⟩
        · obtain ⟨a, b, c⟩ := h1 r hr
          exact ⟨a, by omega, c⟩
        · simp at ha
          subst ha
          refine ⟨by omega, fun k ka kb => ?_, ?_⟩
          · have : k = n := by omega
            rw [this]; exact k2
          · rw [k1] at ho
            by_cases hn : n = 0
            · exact Or.inl hn
            · right
              simp [show 0 < n by omega] at ho
              exact ho
    | some a =>
      obtain ⟨g1, g2, g3⟩ := h2 a k1
      cases k2 : f n
      · simp only
        refine ⟨fun r hr => ?_, by simp⟩
        rw [List.mem_append] at hr
        rcases hr with hr | hr
        · obtain ⟨a, b, c⟩ := h1 r hr
          exact ⟨a, by omega, c⟩
        · simp at hr
          subst hr
          exact ⟨g1, by show n < n + 1; omega, g2, g3, k2⟩
      · simp only
        refine ⟨fun r hr => ?_, fun b hb => ?_⟩
        · obtain ⟨a, b, c⟩ := h1 r hr
          exact ⟨a, by omega, c⟩
        · rw [k1] at hb
          simp at hb
          subst hb
          refine ⟨by omega, fun k ka kb => ?_, g3⟩
          by_cases hk : k = n
          · rw [hk]; exact k2
          · exact g2 k ka (by omega)
theorem rl_isRun (f : Nat → Bool) (n : Nat) : ∀ r ∈ rl f n, IsRun f n r := by
  obtain ⟨h1, h2⟩ := st_runs f n
  intro r hr
  unfold rl fin at hr
  cases k : (st f n).2 with
  | none =>
    rw [k] at hr
    obtain ⟨a, b, c, d, e⟩ := h1 r hr
    exact ⟨a, by omega, c, d, Or.inr e⟩
  | some a =>
    rw [k] at hr
    simp only [List.mem_append, List.mem_singleton] at hr
    rcases hr with hr | hr
    · obtain ⟨a, b, c, d, e⟩ := h1 r hr
      exact ⟨a, by omega, c, d, Or.inr e⟩
    · subst hr
      obtain ⟨g1, g2, g3⟩ := h2 a k
      exact ⟨g1, Nat.le_refl _, g2, g3, Or.inl rfl⟩

def tot (l : List (Nat × Nat)) : Nat := (l.map fun r => r.2 - r.1).sum
theorem tot_append (a b : List (Nat × Nat)) : tot (a ++ b) = tot a + tot b := by simp [tot]
theorem tot_one (a b : Nat) : tot [(a, b)] = b - a := by simp [tot]
theorem tot_take {l : List (Nat × Nat)} {i : Nat} (h : i < l.length) : tot (l.take (i + 1)) = tot (l.take i) + (l[i].2 - l[i].1) := by
  rw [List.take_succ_eq_append_getElem h, tot_append, tot_one]
theorem tot_take_le (l : List (Nat × Nat)) (i : Nat) : tot (l.take i) ≤ tot l := by
  have := tot_append (l.take i) (l.drop i)
  rw [List.take_append_drop] at this
  omega
theorem rl_tot (f : Nat → Bool) : ∀ n, tot (rl f n) = sumTo (fun x => (f x).toNat) n
  | 0 => rfl
  | n + 1 => by
    have ih := rl_tot f n
    simp only [sumTo]
    cases hf : f n with
    | false => rw [rl_succ_white f hf, ih]; simp
    | true =>
      cases hb : (decide (0 < n) && f (n - 1)) with
      | false => rw [rl_succ_new f hf hb, tot_append, tot_one, ih]; simp
      | true =>
        obtain ⟨l, a, e1, e2⟩ := rl_succ_on f hf hb
        have hr := rl_isRun f n (a, n) (by rw [e1]; simp)
        have := hr.lt
        rw [e1, tot_append, tot_one] at ih
        rw [e2, tot_append, tot_one, ← ih]
        simp only [Bool.toNat_true] at *
        omega
theorem rl_tot_le (f : Nat → Bool) (n : Nat) : tot (rl f n) ≤ n := by
  rw [rl_tot]
  have := sumTo_le (f := fun x => (f x).toNat) (g := fun _ => 1) (n := n) (fun k _ => by cases f k <;> simp)
  rw [sumTo_const] at this
  omega

end Go.Proofs.Ythliacfkmpijmaa
