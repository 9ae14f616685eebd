/- Plain mathematics: the runs of all rows, numbered; which of them are of one piece. -/
import Derived.Test.YtgpciopoionmeaaRm
import Derived.Test.YtgpciopoionmeaaUf
namespace Go.Proofs.Ytgpciopoionmeaa

/-- A run in its row: y, from, to. -/
abbrev Line := Nat × Nat × Nat
def lnsTo (L : Nat → List (Nat × Nat)) : Nat → List Line
  | 0 => []
  | y + 1 => lnsTo L y ++ (L y).map fun r => (y, r.1, r.2)
def offL (L : Nat → List (Nat × Nat)) : Nat → Nat
  | 0 => 0
  | y + 1 => offL L y + (L y).length
theorem length_lnsTo (L : Nat → List (Nat × Nat)) : ∀ y, (lnsTo L y).length = offL L y
  | 0 => rfl
  | y + 1 => by simp [lnsTo, offL, length_lnsTo L y]
theorem offL_mono (L : Nat → List (Nat × Nat)) {y : Nat} : ∀ {z : Nat}, y ≤ z → offL L y ≤ offL L z
  | 0, h => by have : y = 0 := by omega
               subst this; exact Nat.le_refl _
  | z + 1, h => by
    by_cases e : y = z + 1
    · subst e; exact Nat.le_refl _
    · exact Nat.le_trans (offL_mono L (z := z) (by omega)) (Nat.le_add_right _ _)
theorem lnsTo_at (L : Nat → List (Nat × Nat)) {y i : Nat} (hi : i < (L y).length) : ∀ {H : Nat}, y < H → (lnsTo L H)[offL L y + i]? = some (y, (L y)[i].1, (L y)[i].2)
  | H + 1, h => by
    show (lnsTo L H ++ _)[_]? = _
    by_cases e : y = H
    · subst e
      rw [List.getElem?_append_right (by rw [length_lnsTo]; omega), length_lnsTo, Nat.add_sub_cancel_left, List.getElem?_map, List.getElem?_eq_getElem hi]; rfl
    · rw [List.getElem?_append_left (by rw [length_lnsTo]; have := offL_mono L (y := y + 1) (z := H) (by omega); simp only [offL] at this; omega)]
      exact lnsTo_at L hi (by omega)
/-- Which row, and which of its runs, a number tells. -/
theorem lnsTo_inv (L : Nat → List (Nat × Nat)) : ∀ {H k : Nat}, k < offL L H → ∃ y i, y < H ∧ i < (L y).length ∧ k = offL L y + i
  | H + 1, k, h => by
    by_cases e : k < offL L H
    · obtain ⟨y, i, a, b, c⟩ := lnsTo_inv L e
      exact ⟨y, i, by omega, b, c⟩
    · simp only [offL] at h
      exact ⟨H, k - offL L H, by omega, by omega, by omega⟩

theorem apart_at {hi : Nat} : ∀ {lo : Nat} {l : List (Nat × Nat)}, Apart hi lo l → ∀ (i : Nat) (h : i < l.length), lo ≤ l[i].1 ∧ l[i].1 < l[i].2 ∧ l[i].2 ≤ hi
  | _, [], _, i, h => absurd h (Nat.not_lt_zero _)
  | _, (a, b) :: t, ⟨h1, h2, h3, h4⟩, 0, _ => ⟨h1, h2, h3⟩
  | _, (a, b) :: t, ⟨h1, h2, h3, h4⟩, i + 1, h => by
    have := apart_at h4 i (by simpa using h)
    simp only [List.getElem_cons_succ]
    omega
theorem apart_lt {hi : Nat} : ∀ {lo : Nat} {l : List (Nat × Nat)}, Apart hi lo l → ∀ (i j : Nat) (hij : i < j) (h : j < l.length), l[i].2 < l[j].1
  | _, [], _, _, j, _, h => absurd h (Nat.not_lt_zero _)
  | _, (a, b) :: t, ⟨h1, h2, h3, h4⟩, 0, j + 1, _, h => by
    have := apart_at h4 j (by simpa using h)
    simp only [List.getElem_cons_succ, List.getElem_cons_zero]
    omega
  | _, (a, b) :: t, ⟨h1, h2, h3, h4⟩, i + 1, j + 1, hij, h => by
    have := apart_lt h4 i j (by omega) (by simpa using h)
    simpa using this
theorem inR_at {l : List (Nat × Nat)} {x : Nat} (h : inR l x = true) : ∃ i, ∃ (hi : i < l.length), l[i].1 ≤ x ∧ x < l[i].2 := by
  unfold inR at h
  obtain ⟨r, hr, hx⟩ := List.any_eq_true.1 h
  obtain ⟨i, hi, rfl⟩ := List.getElem_of_mem hr
  simp at hx
  exact ⟨i, hi, hx⟩
theorem inR_of {l : List (Nat × Nat)} {x i : Nat} (hi : i < l.length) (h1 : l[i].1 ≤ x) (h2 : x < l[i].2) : inR l x = true :=
  List.any_eq_true.2 ⟨l[i], List.getElem_mem hi, by simp [h1, h2]⟩

/-- Black. -/
def Bk (W H : Nat) (P : Nat → Nat → Bool) (p : Nat × Nat) : Prop := p.1 < W ∧ p.2 < H ∧ P p.1 p.2 = true
/-- The k-th line. -/
def ln (L : Nat → List (Nat × Nat)) (H k : Nat) : Line := (lnsTo L H)[k]?.getD (0, 0, 0)
def rep (L : Nat → List (Nat × Nat)) (H k : Nat) : Nat × Nat := ((ln L H k).2.1, (ln L H k).1)
def rowsF (W : Nat) (P : Nat → Nat → Bool) (y : Nat) : List (Nat × Nat) := rl (fun x => P x y) W
def inL (l : Line) (p : Nat × Nat) : Prop := p.2 = l.1 ∧ l.2.1 ≤ p.1 ∧ p.1 < l.2.2

theorem ln_at (L : Nat → List (Nat × Nat)) {H y i : Nat} (hy : y < H) (hi : i < (L y).length) : ln L H (offL L y + i) = (y, (L y)[i].1, (L y)[i].2) := by
  unfold ln; rw [lnsTo_at L hi hy]; rfl
section
variable {W H : Nat} {P : Nat → Nat → Bool}
theorem ln_wf {k : Nat} (hk : k < offL (rowsF W P) H) : (ln (rowsF W P) H k).1 < H ∧ (ln (rowsF W P) H k).2.1 < (ln (rowsF W P) H k).2.2 ∧ (ln (rowsF W P) H k).2.2 ≤ W := by
  obtain ⟨y, i, hy, hi, rfl⟩ := lnsTo_inv _ hk
  rw [ln_at _ hy hi]
  have := apart_at (rl_apart (fun x => P x y) W) i hi
  exact ⟨hy, this.2.1, this.2.2⟩
theorem ln_cover {p : Nat × Nat} (h : Bk W H P p) : ∃ k, k < offL (rowsF W P) H ∧ inL (ln (rowsF W P) H k) p := by
  obtain ⟨h1, h2, h3⟩ := h
  obtain ⟨i, hi, a, b⟩ := inR_at (l := rowsF W P p.2) (x := p.1) ((rl_pix (fun x => P x p.2) h1).trans h3)
  refine ⟨offL (rowsF W P) p.2 + i, ?_, ?_⟩
  · have := offL_mono (rowsF W P) (y := p.2 + 1) (z := H) (by omega)
    simp only [offL] at this; omega
  · rw [ln_at _ h2 hi]; exact ⟨rfl, a, b⟩
theorem ln_black {k : Nat} (hk : k < offL (rowsF W P) H) {p : Nat × Nat} (h : inL (ln (rowsF W P) H k) p) : Bk W H P p := by
  obtain ⟨y, i, hy, hi, rfl⟩ := lnsTo_inv _ hk
  rw [ln_at _ hy hi] at h
  obtain ⟨h1, h2, h3⟩ := h
  have := apart_at (rl_apart (fun x => P x y) W) i hi
  have hx : p.1 < W := Nat.lt_of_lt_of_le h3 this.2.2
  refine ⟨hx, by rw [h1]; exact hy, ?_⟩
  have h1' : p.2 = y := h1
  rw [h1']
  exact (rl_pix (fun x => P x y) hx).symm.trans (inR_of hi h2 h3)
theorem rep_in {k : Nat} (hk : k < offL (rowsF W P) H) : inL (ln (rowsF W P) H k) (rep (rowsF W P) H k) := ⟨rfl, Nat.le_refl _, (ln_wf hk).2.1⟩
/-- Lines stand in raster order. -/
theorem ln_order {i j : Nat} (hij : i < j) (hj : j < offL (rowsF W P) H) : (ln (rowsF W P) H i).1 < (ln (rowsF W P) H j).1 ∨ ((ln (rowsF W P) H i).1 = (ln (rowsF W P) H j).1 ∧ (ln (rowsF W P) H i).2.2 < (ln (rowsF W P) H j).2.1) := by
  obtain ⟨y, a, hy, ha, rfl⟩ := lnsTo_inv _ (Nat.lt_trans hij hj)
  obtain ⟨z, b, hz, hb, rfl⟩ := lnsTo_inv _ hj
  rw [ln_at _ hy ha, ln_at _ hz hb]
  by_cases e : y = z
  · subst e
    exact Or.inr ⟨rfl, apart_lt (rl_apart (fun x => P x y) W) a b (by omega) hb⟩
  · left
    show y < z
    by_cases h : z < y
    · have := offL_mono (rowsF W P) (y := z + 1) (z := y) (by omega)
      simp only [offL] at this; omega
    · omega
theorem rep_ras {i j : Nat} (hij : i < j) (hj : j < offL (rowsF W P) H) : ras (rep (rowsF W P) H i) (rep (rowsF W P) H j) := by
  have h1 := ln_order hij hj
  have h2 := (ln_wf (Nat.lt_trans hij hj)).2.1
  unfold ras rep
  simp only
  omega
/-- Pixels of one line are connected. -/
theorem ln_conn {k : Nat} (hk : k < offL (rowsF W P) H) : ∀ (d : Nat) (p : Nat × Nat), inL (ln (rowsF W P) H k) p → p.1 = (ln (rowsF W P) H k).2.1 + d → PC (Bk W H P) (rep (rowsF W P) H k) p
  | 0, p, h, e => by
    have : p = rep (rowsF W P) H k := Prod.ext e h.1
    rw [this]; exact .refl (ln_black hk (rep_in hk))
  | d + 1, p, h, e => by
    obtain ⟨h1, h2, h3⟩ := h
    have hin : inL (ln (rowsF W P) H k) (p.1 - 1, p.2) := ⟨h1, show (ln (rowsF W P) H k).2.1 ≤ p.1 - 1 by omega, show p.1 - 1 < (ln (rowsF W P) H k).2.2 by omega⟩
    have := ln_conn hk d _ hin (show p.1 - 1 = _ by omega)
    refine this.step ?_ (ln_black hk ⟨h1, h2, h3⟩)
    unfold nb; simp only; omega
theorem ln_pc {k : Nat} (hk : k < offL (rowsF W P) H) {p : Nat × Nat} (h : inL (ln (rowsF W P) H k) p) : PC (Bk W H P) (rep (rowsF W P) H k) p := ln_conn hk (p.1 - (ln (rowsF W P) H k).2.1) p h (by have := h.2.1; omega)
/-- Lines of neighbouring rows touch. -/
def tch (a b : Line) : Prop := a.2.1 ≤ b.2.2 ∧ b.2.1 ≤ a.2.2
theorem touch_pc {i j : Nat} (hi : i < offL (rowsF W P) H) (hj : j < offL (rowsF W P) H) (hy : (ln (rowsF W P) H j).1 = (ln (rowsF W P) H i).1 + 1) (h : tch (ln (rowsF W P) H i) (ln (rowsF W P) H j)) : PC (Bk W H P) (rep (rowsF W P) H i) (rep (rowsF W P) H j) := by
  obtain ⟨h1, h2⟩ := h
  have w1 := (ln_wf hi).2.1
  have w2 := (ln_wf hj).2.1
  have key : ∃ x x', (ln (rowsF W P) H i).2.1 ≤ x ∧ x < (ln (rowsF W P) H i).2.2 ∧ (ln (rowsF W P) H j).2.1 ≤ x' ∧ x' < (ln (rowsF W P) H j).2.2 ∧ x ≤ x' + 1 ∧ x' ≤ x + 1 := by
    generalize (ln (rowsF W P) H i).2.1 = a at *
    generalize (ln (rowsF W P) H i).2.2 = b at *
    generalize (ln (rowsF W P) H j).2.1 = c at *
    generalize (ln (rowsF W P) H j).2.2 = d at *
    by_cases e : a ≤ c
    · by_cases e2 : c < b
      · exact ⟨c, c, by omega, by omega, by omega, by omega, by omega, by omega⟩
      · exact ⟨c - 1, c, by omega, by omega, by omega, by omega, by omega, by omega⟩
    · by_cases e2 : a < d
      · exact ⟨a, a, by omega, by omega, by omega, by omega, by omega, by omega⟩
      · exact ⟨a, a - 1, by omega, by omega, by omega, by omega, by omega, by omega⟩
  obtain ⟨x, x', k1, k2, k3, k4, k5, k6⟩ := key
  have p1 := ln_pc hi (p := (x, (ln (rowsF W P) H i).1)) ⟨rfl, k1, k2⟩
  have p2 := ln_pc hj (p := (x', (ln (rowsF W P) H j).1)) ⟨rfl, k3, k4⟩
  exact (p1.trans (PC.one p1.right (by unfold nb; simp only; omega) p2.right)).trans p2.symm
/-- Neighbours are of one line, or of two that touch. -/
theorem nb_lines {i j : Nat} (hi : i < offL (rowsF W P) H) (hj : j < offL (rowsF W P) H) {p q : Nat × Nat} (hp : inL (ln (rowsF W P) H i) p) (hq : inL (ln (rowsF W P) H j) q) (h : nb p q) :
    i = j ∨ ((ln (rowsF W P) H j).1 = (ln (rowsF W P) H i).1 + 1 ∧ tch (ln (rowsF W P) H i) (ln (rowsF W P) H j)) ∨ ((ln (rowsF W P) H i).1 = (ln (rowsF W P) H j).1 + 1 ∧ tch (ln (rowsF W P) H j) (ln (rowsF W P) H i)) := by
  obtain ⟨a1, a2, a3⟩ := hp
  obtain ⟨b1, b2, b3⟩ := hq
  obtain ⟨n1, n2, n3, n4⟩ := h
  by_cases e : (ln (rowsF W P) H i).1 = (ln (rowsF W P) H j).1
  · left
    rcases Nat.lt_trichotomy i j with c | c | c
    · have := ln_order c hj; omega
    · exact c
    · have := ln_order c hi; omega
  · right
    unfold tch
    omega

/-- A forest that has put together what touches, and nothing else. -/
structure Grown (W H : Nat) (P : Nat → Nat → Bool) (f : Nat → Nat) : Prop where
  dn : Dn f
  sound : ∀ i j, i < offL (rowsF W P) H → j < offL (rowsF W P) H → rt f i = rt f j → PC (Bk W H P) (rep (rowsF W P) H i) (rep (rowsF W P) H j)
  full : ∀ i j, i < offL (rowsF W P) H → j < offL (rowsF W P) H → (ln (rowsF W P) H j).1 = (ln (rowsF W P) H i).1 + 1 → tch (ln (rowsF W P) H i) (ln (rowsF W P) H j) → rt f i = rt f j
theorem Grown.back {f : Nat → Nat} (g : Grown W H P f) {p q : Nat × Nat} (h : PC (Bk W H P) p q) : ∀ {i j : Nat}, i < offL (rowsF W P) H → j < offL (rowsF W P) H → inL (ln (rowsF W P) H i) p → inL (ln (rowsF W P) H j) q → rt f i = rt f j := by
  induction h with
  | refl _ =>
    intro i j hi hj h1 h2
    rcases nb_lines hi hj h1 h2 ⟨by omega, by omega, by omega, by omega⟩ with e | ⟨e1, e2⟩ | ⟨e1, e2⟩
    · rw [e]
    · exact g.full i j hi hj e1 e2
    · exact (g.full j i hj hi e1 e2).symm
  | step h1 h2 _ ih =>
    intro i j hi hj hp hr
    obtain ⟨k, hk, hkq⟩ := ln_cover h1.right
    rw [ih hi hk hp hkq]
    rcases nb_lines hk hj hkq hr h2 with e | ⟨e1, e2⟩ | ⟨e1, e2⟩
    · rw [e]
    · exact g.full k j hk hj e1 e2
    · exact (g.full j k hj hk e1 e2).symm
theorem Grown.pc {f : Nat → Nat} (g : Grown W H P f) {i j : Nat} (hi : i < offL (rowsF W P) H) (hj : j < offL (rowsF W P) H) {p q : Nat × Nat} (hp : inL (ln (rowsF W P) H i) p) (hq : inL (ln (rowsF W P) H j) q) : PC (Bk W H P) p q ↔ rt f i = rt f j :=
  ⟨fun h => g.back h hi hj hp hq, fun h => ((ln_pc hi hp).symm.trans (g.sound i j hi hj h)).trans (ln_pc hj hq)⟩

/-- The lines of one root, in their order. -/
def partTo (ls : Nat → Line) (ρ : Nat → Nat) : Nat → Nat → List Line
  | 0, _ => []
  | i + 1, r => if ρ i = r then partTo ls ρ i r ++ [ls i] else partTo ls ρ i r
theorem mem_partTo {ls : Nat → Line} {ρ : Nat → Nat} {l : Line} {r : Nat} : ∀ {n : Nat}, l ∈ partTo ls ρ n r ↔ ∃ i, i < n ∧ ρ i = r ∧ l = ls i
  | 0 => by simp [partTo]
  | n + 1 => by
    unfold partTo
    split
    · rename_i h
      rw [List.mem_append, mem_partTo (n := n)]
      constructor
      · rintro (⟨i, a, b, c⟩ | e)
        · exact ⟨i, by omega, b, c⟩
        · simp at e; exact ⟨n, by omega, h, e⟩
      · rintro ⟨i, a, b, c⟩
        by_cases e : i = n
        · subst e; right; simp [c]
        · left; exact ⟨i, by omega, b, c⟩
    · rename_i h
      rw [mem_partTo (n := n)]
      constructor
      · rintro ⟨i, a, b, c⟩; exact ⟨i, by omega, b, c⟩
      · rintro ⟨i, a, b, c⟩
        by_cases e : i = n
        · subst e; exact absurd b h
        · exact ⟨i, by omega, b, c⟩
theorem partTo_sorted {ls : Nat → Line} {ρ : Nat → Nat} {r : Nat} : ∀ {n : Nat}, (∀ i j, i < j → j < n → (ls i).1 ≤ (ls j).1) → (partTo ls ρ n r).Pairwise (fun a b => a.1 ≤ b.1)
  | 0, _ => by simp [partTo]
  | n + 1, h => by
    have ih := partTo_sorted (ρ := ρ) (r := r) (n := n) (fun i j a b => h i j a (by omega))
    unfold partTo
    split
    · rw [List.pairwise_append]
      refine ⟨ih, by simp, fun a ha b hb => ?_⟩
      simp at hb; subst hb
      obtain ⟨i, h1, h2, rfl⟩ := mem_partTo.1 ha
      exact h i n h1 (by omega)
    · exact ih
theorem partTo_none {ls : Nat → Line} {ρ : Nat → Nat} {r : Nat} : ∀ {n : Nat}, (∀ i, i < n → ρ i ≠ r) → partTo ls ρ n r = []
  | 0, _ => rfl
  | n + 1, h => by
    unfold partTo
    rw [if_neg (h n (by omega))]
    exact partTo_none (fun i hi => h i (by omega))
theorem partTo_head {ls : Nat → Line} {ρ : Nat → Nat} {r : Nat} (hr : ρ r = r) (hd : ∀ i, ρ i ≤ i) : ∀ {n : Nat}, r < n → ∃ t, partTo ls ρ n r = ls r :: t
  | n + 1, h => by
    unfold partTo
    by_cases e : r = n
    · subst e
      rw [if_pos hr, partTo_none (fun i hi => by have := hd i; omega)]
      exact ⟨[], rfl⟩
    · obtain ⟨t, ht⟩ := partTo_head (ls := ls) hr hd (n := n) (by omega)
      rw [ht]
      split
      · exact ⟨t ++ [ls n], rfl⟩
      · exact ⟨t, rfl⟩

/-- The least beginning, the greatest end. -/
def fmL (a : Nat) (l : List Line) : Nat := l.foldl (fun m x => min m x.2.1) a
def tmL (a : Nat) (l : List Line) : Nat := l.foldl (fun m x => max m x.2.2) a
theorem fmL_le {l : List Line} : ∀ {a : Nat}, fmL a l ≤ a ∧ ∀ x ∈ l, fmL a l ≤ x.2.1 := by
  induction l with
  | nil => intro a; exact ⟨Nat.le_refl _, by simp⟩
  | cons y t ih =>
    intro a
    have := ih (a := min a y.2.1)
    show fmL (min a y.2.1) t ≤ a ∧ _
    refine ⟨by omega, fun x hx => ?_⟩
    show fmL (min a y.2.1) t ≤ _
    rcases List.mem_cons.1 hx with rfl | hx
    · omega
    · exact this.2 x hx
theorem fmL_mem {l : List Line} : ∀ {a : Nat}, fmL a l = a ∨ ∃ x ∈ l, fmL a l = x.2.1 := by
  induction l with
  | nil => intro a; exact Or.inl rfl
  | cons y t ih =>
    intro a
    show fmL (min a y.2.1) t = a ∨ ∃ x ∈ _, fmL (min a y.2.1) t = _
    rcases ih (a := min a y.2.1) with e | ⟨x, hx, e⟩
    · by_cases h : a ≤ y.2.1
      · left; omega
      · right; exact ⟨y, List.mem_cons_self .., by omega⟩
    · right; exact ⟨x, List.mem_cons_of_mem _ hx, e⟩
theorem tmL_le {l : List Line} : ∀ {a : Nat}, a ≤ tmL a l ∧ ∀ x ∈ l, x.2.2 ≤ tmL a l := by
  induction l with
  | nil => intro a; exact ⟨Nat.le_refl _, by simp⟩
  | cons y t ih =>
    intro a
    have := ih (a := max a y.2.2)
    show a ≤ tmL (max a y.2.2) t ∧ _
    refine ⟨by omega, fun x hx => ?_⟩
    show _ ≤ tmL (max a y.2.2) t
    rcases List.mem_cons.1 hx with rfl | hx
    · omega
    · exact this.2 x hx
theorem tmL_mem {l : List Line} : ∀ {a : Nat}, tmL a l = a ∨ ∃ x ∈ l, tmL a l = x.2.2 := by
  induction l with
  | nil => intro a; exact Or.inl rfl
  | cons y t ih =>
    intro a
    show tmL (max a y.2.2) t = a ∨ ∃ x ∈ _, tmL (max a y.2.2) t = _
    rcases ih (a := max a y.2.2) with e | ⟨x, hx, e⟩
    · by_cases h : y.2.2 ≤ a
      · left; omega
      · right; exact ⟨y, List.mem_cons_self .., by omega⟩
    · right; exact ⟨x, List.mem_cons_of_mem _ hx, e⟩

/-- Which pixels lines hold. -/
def onL (l : List Line) (x y : Nat) : Bool := l.any fun r => decide (r.1 = y) && decide (r.2.1 ≤ x) && decide (x < r.2.2)
theorem onL_iff {l : List Line} {x y : Nat} : onL l x y = true ↔ ∃ r ∈ l, inL r (x, y) := by
  unfold onL inL
  rw [List.any_eq_true]
  constructor
  · rintro ⟨r, hr, h⟩
    simp at h
    exact ⟨r, hr, h.1.1.symm, h.1.2, h.2⟩
  · rintro ⟨r, hr, h1, h2, h3⟩
    exact ⟨r, hr, by simp at h1 h2 h3 ⊢; exact ⟨⟨h1.symm, h2⟩, h3⟩⟩
/-- The piece that lines are drawn as. -/
def pcOf (l : List Line) : Pc :=
  let a := (l.headD (0, 0, 0))
  let z := (l.getLastD (0, 0, 0))
  let fm := fmL a.2.1 l
  { X := fm, Y := a.1, W := tmL a.2.2 l - fm, H := z.1 + 1 - a.1, Q := fun x y => onL l (fm + x) (a.1 + y) }

theorem Grown.piece {f : Nat → Nat} (g : Grown W H P f) {r : Nat} (hr : rt f r = r) (hn : r < offL (rowsF W P) H) :
    IsPc (Bk W H P) (rep (rowsF W P) H r) (pcOf (partTo (ln (rowsF W P) H) (rt f) (offL (rowsF W P) H) r)) := by
  obtain ⟨t, ht⟩ := partTo_head (ls := ln (rowsF W P) H) hr (rt_le f) hn
  have hmem : ∀ l, l ∈ partTo (ln (rowsF W P) H) (rt f) (offL (rowsF W P) H) r ↔ ∃ i, i < offL (rowsF W P) H ∧ rt f i = r ∧ l = ln (rowsF W P) H i := fun l => mem_partTo
  have hso := partTo_sorted (ls := ln (rowsF W P) H) (ρ := rt f) (r := r) (n := offL (rowsF W P) H) (fun i j a b => by have := ln_order a b; omega)
  generalize hpt : partTo (ln (rowsF W P) H) (rt f) (offL (rowsF W P) H) r = pt at *
  have hconn : ∀ q, PC (Bk W H P) (rep (rowsF W P) H r) q ↔ ∃ l ∈ pt, inL l q := fun q => by
    constructor
    · intro h
      obtain ⟨k, hk, hq⟩ := ln_cover h.right
      exact ⟨_, (hmem _).2 ⟨k, hk, by rw [← g.back h hn hk (rep_in hn) hq, hr], rfl⟩, hq⟩
    · rintro ⟨l, hl, hq⟩
      obtain ⟨i, hi, e, rfl⟩ := (hmem l).1 hl
      exact (g.pc hn hi (rep_in hn) hq).2 (by rw [hr, e])
  have hwf : ∀ l ∈ pt, l.2.1 < l.2.2 := fun l hl => by
    obtain ⟨i, hi, e, rfl⟩ := (hmem l).1 hl
    exact (ln_wf hi).2.1
  have hr0 : ln (rowsF W P) H r ∈ pt := by rw [ht]; exact List.mem_cons_self ..
  have hne : pt ≠ [] := by rw [ht]; simp
  have hhd : pt.headD (0, 0, 0) = ln (rowsF W P) H r := by rw [ht]; rfl
  have hlast : pt.getLastD (0, 0, 0) ∈ pt := by
    rw [List.getLastD_eq_getLast?, List.getLast?_eq_some_getLast hne]; exact List.getLast_mem hne
  have hmin : ∀ l ∈ pt, (ln (rowsF W P) H r).1 ≤ l.1 := fun l hl => by
    rw [ht] at hl hso
    rcases List.mem_cons.1 hl with e | hl
    · rw [e]; exact Nat.le_refl _
    · exact (List.pairwise_cons.1 hso).1 l hl
  have hmax : ∀ l ∈ pt, l.1 ≤ (pt.getLastD (0, 0, 0)).1 := fun l hl => by
    rw [List.getLastD_eq_getLast?, List.getLast?_eq_some_getLast hne]
    have e := List.dropLast_concat_getLast hne
    rw [← e] at hl hso
    rcases List.mem_append.1 hl with hl | hl
    · exact (List.pairwise_append.1 hso).2.2 l hl _ (List.mem_singleton.2 rfl)
    · simp at hl; rw [hl]; exact Nat.le_refl _
  have f1 := fmL_le (l := pt) (a := (ln (rowsF W P) H r).2.1)
  have f2 := tmL_le (l := pt) (a := (ln (rowsF W P) H r).2.2)
  have hfm : ∃ l ∈ pt, fmL (ln (rowsF W P) H r).2.1 pt = l.2.1 := by
    rcases fmL_mem (l := pt) (a := (ln (rowsF W P) H r).2.1) with e | e
    · exact ⟨_, hr0, e⟩
    · exact e
  have htm : ∃ l ∈ pt, tmL (ln (rowsF W P) H r).2.2 pt = l.2.2 := by
    rcases tmL_mem (l := pt) (a := (ln (rowsF W P) H r).2.2) with e | e
    · exact ⟨_, hr0, e⟩
    · exact e
  obtain ⟨l1, m1, e1⟩ := hfm
  obtain ⟨l2, m2, e2⟩ := htm
  have w1 := hwf _ m1; have w2 := hwf _ m2
  have q1 := f1.2 _ m2
  have q2 := f2.2 _ m1
  have z1 := hmin _ hlast
  have z2 := hwf _ hlast
  have z3 := hwf _ hr0
  constructor
  · intro x y hx hy
    show onL pt _ _ = true ↔ _
    rw [onL_iff, hconn]
    simp only [pcOf, hhd]
  · intro q hq
    obtain ⟨l, hl, a, b, c⟩ := (hconn q).1 hq
    have u1 := f1.2 _ hl
    have u2 := f2.2 _ hl
    have u3 := hmin _ hl
    have u4 := hmax _ hl
    simp only [pcOf, hhd]
    omega
  · exact ⟨(l1.2.1, l1.1), (hconn _).2 ⟨l1, m1, rfl, Nat.le_refl _, w1⟩, by simp only [pcOf, hhd]; exact e1.symm⟩
  · exact ⟨(l2.2.2 - 1, l2.1), (hconn _).2 ⟨l2, m2, rfl, by simp only; omega, by simp only; omega⟩, by simp only [pcOf, hhd]; omega⟩
  · exact ⟨rep (rowsF W P) H r, (hconn _).2 ⟨_, hr0, rfl, Nat.le_refl _, z3⟩, by simp only [pcOf, hhd, rep]⟩
  · exact ⟨_, (hconn ((pt.getLastD (0, 0, 0)).2.1, (pt.getLastD (0, 0, 0)).1)).2 ⟨_, hlast, rfl, Nat.le_refl _, z2⟩, by simp only [pcOf, hhd]; omega⟩

/-- The roots, from the least one on. -/
structure Roots (ρ : Nat → Nat) (n : Nat) (ks : List Nat) : Prop where
  sorted : ks.Pairwise (· < ·)
  mem : ∀ r, r ∈ ks ↔ r < n ∧ ρ r = r
theorem Grown.firsts {f : Nat → Nat} (g : Grown W H P f) {ks : List Nat} (hk : Roots (rt f) (offL (rowsF W P) H) ks) : Firsts (Bk W H P) (ks.map (rep (rowsF W P) H)) := by
  constructor
  · rw [List.pairwise_map]
    refine List.Pairwise.imp_of_mem ?_ hk.sorted
    intro a b ha hb hab
    exact rep_ras hab ((hk.mem b).1 hb).1
  · intro p
    rw [List.mem_map]
    constructor
    · rintro ⟨r, hr, rfl⟩
      obtain ⟨h1, h2⟩ := (hk.mem r).1 hr
      refine ⟨ln_black h1 (rep_in h1), fun q hq hras => ?_⟩
      obtain ⟨k, hk', hkq⟩ := ln_cover hq.right
      have e := g.back hq h1 hk' (rep_in h1) hkq
      have hle := rt_le f k
      rw [← e, h2] at hle
      have w := ln_wf h1
      rcases Nat.lt_or_ge r k with c | c
      · have := ln_order c hk'
        obtain ⟨b1, b2, b3⟩ := hkq
        unfold ras rep at hras
        simp only at hras
        omega
      · have : k = r := by omega
        subst this
        obtain ⟨b1, b2, b3⟩ := hkq
        unfold ras rep at hras
        simp only at hras
        omega
    · rintro ⟨h1, h2⟩
      obtain ⟨k, hk', hkq⟩ := ln_cover h1
      have hrr := rt_rt g.dn k
      have hlt : rt f k < offL (rowsF W P) H := Nat.lt_of_le_of_lt (rt_le f k) hk'
      refine ⟨rt f k, (hk.mem _).2 ⟨hlt, hrr⟩, ?_⟩
      have hpc : PC (Bk W H P) p (rep (rowsF W P) H (rt f k)) := (g.pc hk' hlt hkq (rep_in hlt)).2 hrr.symm
      have hn := h2 _ hpc
      rcases ras_total p (rep (rowsF W P) H (rt f k)) with c | c | c
      · exfalso
        have hle := rt_le f k
        have w := ln_wf hk'
        rcases Nat.lt_or_ge (rt f k) k with d | d
        · have := ln_order d hk'
          have w2 := ln_wf hlt
          obtain ⟨b1, b2, b3⟩ := hkq
          unfold ras rep at c
          simp only at c
          omega
        · have e : rt f k = k := by omega
          rw [e] at c
          obtain ⟨b1, b2, b3⟩ := hkq
          unfold ras rep at c
          simp only at c
          omega
      · exact c.symm
      · exact absurd c hn
end

end Go.Proofs.Ytgpciopoionmeaa
