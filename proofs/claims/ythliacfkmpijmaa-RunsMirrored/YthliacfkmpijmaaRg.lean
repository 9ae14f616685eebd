/- Runs are told by their pixels; mirrored runs; the runs between. -/
import Derived.Test.YthliacfkmpijmaaRx
namespace Go.Proofs.Ythliacfkmpijmaa

theorem apart_split {hi a b : Nat} : ∀ {lo : Nat} {l : List (Nat × Nat)}, Apart hi lo (l ++ [(a, b)]) → (∀ r ∈ l, r.2 < a) ∧ Apart a lo l ∧ lo ≤ a ∧ a < b ∧ b ≤ hi
  | _, [], h => ⟨by simp, trivial, h.1, h.2.1, h.2.2.1⟩
  | lo, (c, d) :: t, h => by
    obtain ⟨h1, h2, h3, h4⟩ := h
    obtain ⟨g1, g2, g3, g4, g5⟩ := apart_split (lo := d + 1) (l := t) h4
    refine ⟨fun r hr => ?_, ⟨h1, h2, by omega, g2⟩, by omega, g4, g5⟩
    rcases List.mem_cons.1 hr with e | e
    · subst e; show d < a; omega
    · exact g1 r e
theorem apart_in {hi : Nat} : ∀ {lo : Nat} {l : List (Nat × Nat)}, Apart hi lo l → ∀ r ∈ l, lo ≤ r.1 ∧ r.1 < r.2 ∧ r.2 ≤ hi
  | _, [], _, r, hr => by simp at hr
  | lo, (c, d) :: t, ⟨h1, h2, h3, h4⟩, r, hr => by
    rcases List.mem_cons.1 hr with e | e
    · subst e; exact ⟨h1, h2, h3⟩
    · have := apart_in h4 r e; exact ⟨by omega, this.2⟩
theorem apart_low {hi : Nat} : ∀ {lo lo' : Nat} {l : List (Nat × Nat)}, lo' ≤ lo → Apart hi lo l → Apart hi lo' l
  | _, _, [], _, _ => trivial
  | _, _, (_, _) :: _, h, ⟨a, b, c, d⟩ => ⟨Nat.le_trans h a, b, c, d⟩
theorem inR_below {hi lo : Nat} {l : List (Nat × Nat)} (h : Apart hi lo l) {x : Nat} (hx : x < lo) : inR l x = false := by
  unfold inR
  rw [List.any_eq_false]
  intro r hr
  have := apart_in h r hr
  simp; omega

theorem rl_eq_of : ∀ (k : Nat) (l : List (Nat × Nat)), l.length = k → ∀ n, Apart n 0 l → rl (inR l) n = l
  | 0, l, hk, n, _ => by
    have : l = [] := List.eq_nil_of_length_eq_zero hk
    subst this
    have h : st (inR []) n = st (inR []) 0 := st_stay _ (Nat.zero_le _) (fun i _ _ => rfl)
    unfold rl; rw [h]; rfl
  | k + 1, l, hk, n, hA => by
    obtain ⟨l0, r, rfl⟩ : ∃ l0 r, l = l0 ++ [r] := by
      have hne : l ≠ [] := by intro e; rw [e] at hk; simp at hk
      exact ⟨l.dropLast, l.getLast hne, (List.dropLast_concat_getLast hne).symm⟩
    obtain ⟨a, b⟩ := r
    obtain ⟨g1, g2, _, g4, g5⟩ := apart_split hA
    have ih := rl_eq_of k l0 (by simpa using hk) a g2
    have hpix : ∀ x, x < a → inR (l0 ++ [(a, b)]) x = inR l0 x := fun x hx => by
      rw [inR_append, inR_one, decide_eq_false (by omega)]; simp
    have hin : ∀ x, a ≤ x → x < b → inR (l0 ++ [(a, b)]) x = true := fun x h1 h2 => by
      rw [inR_append, inR_one, decide_eq_true h1, decide_eq_true h2]; simp
    have hout : ∀ x, b ≤ x → inR (l0 ++ [(a, b)]) x = false := fun x h1 => by
      rw [inR_append, inR_one, decide_eq_false (show ¬ x < b by omega), inR_far (fun r hr => by have := g1 r hr; omega)]; simp
    generalize hf : inR (l0 ++ [(a, b)]) = f at *
    have hla : (st f a).2 = none := by
      have ho := st_open f a
      by_cases ha : a = 0
      · subst ha; rfl
      · rw [hpix (a - 1) (by omega), inR_far (fun r hr => by have := g1 r hr; omega), Bool.and_false] at ho
        simpa using ho
    have hra : (st f a).1 = l0 := by
      have e : rl f a = l0 := by rw [rl_congr (g := inR l0) (fun i hi => hpix i hi)]; exact ih
      unfold rl fin at e
      rw [hla] at e
      exact e
    have hb1 : st f (a + 1) = (l0, some a) := by rw [st_begin f hla (hin a (by omega) g4), hra]
    have hb2 : st f b = (l0, some a) := by
      rw [← hb1]
      exact st_stay f (by omega) (fun i h1 h2 => by rw [hb1]; exact hin i (by omega) h2)
    unfold rl
    by_cases hn : n = b
    · rw [hn, hb2]; rfl
    · have hb3 : st f (b + 1) = (l0 ++ [(a, b)], none) := by
        have := st_end f (p := b) (a := a) (by rw [hb2]) (hout b (Nat.le_refl _))
        rw [hb2] at this; exact this
      have hb4 : st f n = (l0 ++ [(a, b)], none) := by
        rw [← hb3]
        exact st_stay f (by omega) (fun i h1 _ => by rw [hb3]; exact hout i (by omega))
      rw [hb4]; rfl
theorem rl_unique {f : Nat → Bool} {n : Nat} {l : List (Nat × Nat)} (h : Apart n 0 l) (hp : ∀ x, x < n → f x = inR l x) : rl f n = l := by
  rw [rl_congr hp]; exact rl_eq_of _ l rfl n h

/-- Mirrored runs. -/
def mirL (W : Nat) (l : List (Nat × Nat)) : List (Nat × Nat) := (l.map fun r => (W - r.2, W - r.1)).reverse
theorem mirL_cons (W a b : Nat) (t : List (Nat × Nat)) : mirL W ((a, b) :: t) = mirL W t ++ [(W - b, W - a)] := by simp [mirL]
theorem mirL_apart {W : Nat} : ∀ {lo : Nat} {l : List (Nat × Nat)}, Apart W lo l → Apart W 0 (mirL W l)
  | _, [], _ => trivial
  | lo, (a, b) :: t, ⟨h1, h2, h3, h4⟩ => by
    rw [mirL_cons]
    refine apart_append (mirL_apart h4) (fun r hr => ?_) (Nat.zero_le _) (by omega) (by omega)
    unfold mirL at hr
    rw [List.mem_reverse, List.mem_map] at hr
    obtain ⟨q, hq, rfl⟩ := hr
    have := apart_in h4 q hq
    show W - q.1 < W - b
    omega
theorem mirL_pix {W lo : Nat} {l : List (Nat × Nat)} (h : Apart W lo l) {x : Nat} (hx : x < W) : inR (mirL W l) x = inR l (W - 1 - x) := by
  unfold inR mirL
  rw [List.any_reverse, List.any_map]
  rw [Bool.eq_iff_iff, List.any_eq_true, List.any_eq_true]
  constructor
  · rintro ⟨r, hr, hd⟩
    have := apart_in h r hr
    refine ⟨r, hr, ?_⟩
    simp only [Function.comp, Bool.and_eq_true, decide_eq_true_eq] at hd ⊢
    omega
  · rintro ⟨r, hr, hd⟩
    have := apart_in h r hr
    refine ⟨r, hr, ?_⟩
    simp only [Function.comp, Bool.and_eq_true, decide_eq_true_eq] at hd ⊢
    omega
theorem rl_mirror (f : Nat → Bool) (W : Nat) : rl (fun x => f (W - 1 - x)) W = mirL W (rl f W) := by
  refine rl_unique (mirL_apart (rl_apart f W)) (fun x hx => ?_)
  rw [mirL_pix (rl_apart f W) hx, rl_pix f (by omega)]
theorem length_mirL (W : Nat) (l : List (Nat × Nat)) : (mirL W l).length = l.length := by simp [mirL]
theorem mirL_get (W : Nat) (l : List (Nat × Nat)) {i : Nat} (h : i < l.length) : (mirL W l)[l.length - 1 - i]'(by rw [length_mirL]; omega) = (W - l[i].2, W - l[i].1) := by
  unfold mirL
  rw [List.getElem_reverse, List.getElem_map]
  simp only [List.length_map]
  have : l.length - 1 - (l.length - 1 - i) = i := by omega
  simp only [this]

/-- The runs between. -/
def gapsL (W : Nat) : Nat → List (Nat × Nat) → List (Nat × Nat)
  | at_, [] => if at_ < W then [(at_, W)] else []
  | at_, (a, b) :: t => if at_ < a then (at_, a) :: gapsL W b t else gapsL W b t
theorem gapsL_apart {W : Nat} : ∀ {at_ : Nat} {l : List (Nat × Nat)}, Apart W at_ l → Apart W at_ (gapsL W at_ l)
  | at_, [], _ => by
    unfold gapsL
    split
    · exact ⟨Nat.le_refl _, by assumption, Nat.le_refl _, trivial⟩
    · trivial
  | at_, (a, b) :: t, ⟨h1, h2, h3, h4⟩ => by
    have ih := gapsL_apart (at_ := b) (apart_low (by omega) h4)
    unfold gapsL
    split
    · exact ⟨Nat.le_refl _, by assumption, by omega, apart_low (by omega) ih⟩
    · exact apart_low (by omega) ih
theorem gapsL_pix {W : Nat} : ∀ {at_ : Nat} {l : List (Nat × Nat)}, Apart W at_ l → ∀ {x : Nat}, x < W → inR (gapsL W at_ l) x = (decide (at_ ≤ x) && !inR l x)
  | at_, [], _, x, hx => by
    unfold gapsL
    split
    · rw [inR_one, decide_eq_true hx]; simp [inR]
    · rw [decide_eq_false (by omega)]; rfl
  | at_, (a, b) :: t, ⟨h1, h2, h3, h4⟩, x, hx => by
    have ih := gapsL_pix (at_ := b) (apart_low (by omega) h4) hx
    have e1 : inR ((a, b) :: t) x = ((decide (a ≤ x) && decide (x < b)) || inR t x) := by simp [inR]
    have hb : x < b + 1 → inR t x = false := fun h => inR_below h4 h
    rw [e1]
    unfold gapsL
    by_cases hg : at_ < a
    · rw [if_pos hg]
      have e2 : inR ((at_, a) :: gapsL W b t) x = ((decide (at_ ≤ x) && decide (x < a)) || inR (gapsL W b t) x) := by simp [inR]
      rw [e2, ih]
      by_cases c1 : at_ ≤ x
      · by_cases c2 : x < a
        · rw [hb (by omega)]; simp [c1, c2]
        · by_cases c3 : x < b
          · rw [decide_eq_false (show ¬ b ≤ x by omega), decide_eq_true (show a ≤ x by omega)]; simp [c2, c3]
          · simp [c1, c2, c3]; omega
      · rw [decide_eq_false (show ¬ b ≤ x by omega)]; simp [c1]
    · rw [if_neg hg, ih]
      by_cases c1 : at_ ≤ x
      · by_cases c3 : x < b
        · rw [decide_eq_false (show ¬ b ≤ x by omega), decide_eq_true (show a ≤ x by omega)]; simp [c3]
        · simp [c1, c3]; omega
      · rw [decide_eq_false (show ¬ b ≤ x by omega)]; simp [c1]
theorem rl_inverse (f : Nat → Bool) (W : Nat) : rl (fun x => !f x) W = gapsL W 0 (rl f W) := by
  refine rl_unique (gapsL_apart (rl_apart f W)) (fun x hx => ?_)
  rw [gapsL_pix (rl_apart f W) hx, rl_pix f hx]; simp

end Go.Proofs.Ythliacfkmpijmaa
