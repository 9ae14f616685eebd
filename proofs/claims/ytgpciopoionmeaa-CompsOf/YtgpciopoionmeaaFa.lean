/- Flood fill: the mathematics of the reference's 'piece': the dots so far, what is left. -/
import Derived.Test.YtgpciopoionmeaaUf
import Derived.Test.YtgpciopoionmeaaCnt
namespace Go.Proofs.Ytgpciopoionmeaa

/-- The dots so far: connected with the first one; of the first i of them all neighbours are among them. -/
structure Fld (B : Nat × Nat → Prop) (f : Nat × Nat) (l : List (Nat × Nat)) (i : Nat) : Prop where
  nd : l.Nodup
  hd : l[0]? = some f
  cn : ∀ p, p ∈ l → PC B f p
  cl : ∀ k p, k < i → l[k]? = some p → ∀ q, B q → nb p q → q ∈ l
/-- Of the dot p besides: the neighbours ahead of the row j, and of the row j those ahead of k. -/
def FldP (B : Nat × Nat → Prop) (l : List (Nat × Nat)) (p : Nat × Nat) (j k : Int) : Prop :=
  ∀ q, B q → nb p q → ((q.2 : Int) < p.2 + j ∨ ((q.2 : Int) = p.2 + j ∧ (q.1 : Int) < p.1 + k)) → q ∈ l
theorem Fld.first {B : Nat × Nat → Prop} {f : Nat × Nat} (h : B f) : Fld B f [f] 0 :=
  ⟨by simp, rfl, fun p hp => by simp at hp; subst hp; exact .refl h, fun k _ hk => absurd hk (Nat.not_lt_zero _)⟩
theorem Fld.mem {B : Nat × Nat → Prop} {f : Nat × Nat} {l : List (Nat × Nat)} {i : Nat} (h : Fld B f l i) : f ∈ l := List.mem_of_getElem? h.hd
/-- One dot more. -/
theorem Fld.more {B : Nat × Nat → Prop} {f : Nat × Nat} {l : List (Nat × Nat)} {i : Nat} (h : Fld B f l i) {p q : Nat × Nat} (hp : p ∈ l) (hn : nb p q) (hq : B q) (hl : q ∉ l) (hi : i ≤ l.length) : Fld B f (l ++ [q]) i := by
  refine ⟨?_, ?_, fun x hx => ?_, fun k x hk hx y hy hxy => ?_⟩
  · rw [List.nodup_append]
    refine ⟨h.nd, by simp, fun a ha b hb e => ?_⟩
    simp at hb
    subst hb
    subst e
    exact hl ha
  · rw [List.getElem?_append_left (by have := h.hd; have h2 := List.getElem?_eq_some_iff.1 this; obtain ⟨h3, _⟩ := h2; exact h3)]
    exact h.hd
  · rw [List.mem_append] at hx
    rcases hx with hx | hx
    · exact h.cn x hx
    · simp at hx
      subst hx
      exact (h.cn p hp).step hn hq
  · rw [List.getElem?_append_left (by omega)] at hx
    exact List.mem_append_left _ (h.cl k x hk hx y hy hxy)
theorem FldP.more {B : Nat × Nat → Prop} {l : List (Nat × Nat)} {p : Nat × Nat} {j k : Int} (h : FldP B l p j k) (q : Nat × Nat) : FldP B (l ++ [q]) p j k := fun x hx hn hk => List.mem_append_left _ (h x hx hn hk)
theorem FldP.zero (B : Nat × Nat → Prop) (l : List (Nat × Nat)) (p : Nat × Nat) : FldP B l p (-1) (-1) := fun q _ hn hk => by
  obtain ⟨h1, h2, h3, h4⟩ := hn
  exfalso
  omega
/-- One place more is looked at. -/
theorem FldP.next {B : Nat × Nat → Prop} {l : List (Nat × Nat)} {p : Nat × Nat} {j k : Int} (h : FldP B l p j k) (hq : ∀ q : Nat × Nat, B q → (q.1 : Int) = p.1 + k → (q.2 : Int) = p.2 + j → q ∈ l) : FldP B l p j (k + 1) := fun q hb hn hk => by
  by_cases e : (q.1 : Int) = p.1 + k ∧ (q.2 : Int) = p.2 + j
  · exact hq q hb e.1 e.2
  · exact h q hb hn (by omega)
theorem FldP.row {B : Nat × Nat → Prop} {l : List (Nat × Nat)} {p : Nat × Nat} {j : Int} (h : FldP B l p j 2) : FldP B l p (j + 1) (-1) := fun q hb hn hk => by
  obtain ⟨h1, h2, h3, h4⟩ := hn
  refine h q hb ⟨h1, h2, h3, h4⟩ ?_
  omega
/-- All about a dot. -/
theorem Fld.next {B : Nat × Nat → Prop} {f : Nat × Nat} {l : List (Nat × Nat)} {i : Nat} (h : Fld B f l i) {p : Nat × Nat} (hp : l[i]? = some p) {j : Int} (hj : 2 ≤ j) {k : Int} (hk : FldP B l p j k) : Fld B f l (i + 1) := by
  refine ⟨h.nd, h.hd, h.cn, fun a x ha hx y hy hxy => ?_⟩
  by_cases e : a = i
  · subst e
    rw [hp] at hx
    cases hx
    obtain ⟨h1, h2, h3, h4⟩ := hxy
    exact hk y hy ⟨h1, h2, h3, h4⟩ (by omega)
  · exact h.cl a x (by omega) hx y hy hxy
/-- At the end the dots are all that is connected. -/
theorem Fld.all {B : Nat × Nat → Prop} {f : Nat × Nat} {l : List (Nat × Nat)} (h : Fld B f l l.length) : ∀ q, PC B f q ↔ q ∈ l := by
  intro q
  refine ⟨fun hq => ?_, fun hq => h.cn q hq⟩
  induction hq with
  | refl _ => exact h.mem
  | step a hn hb ih =>
    obtain ⟨k, hk, e⟩ := List.getElem_of_mem ih
    exact h.cl k _ hk (by rw [List.getElem?_eq_getElem hk, e]) _ hb hn

/-- What is left: the pixels without the dots. -/
def leftP (P : Nat → Nat → Bool) (l : List (Nat × Nat)) : Nat → Nat → Bool := fun a e => P a e && !(decide ((a, e) ∈ l))
theorem leftP_nil (P : Nat → Nat → Bool) : leftP P [] = P := by funext a e; simp [leftP]
theorem leftP_in {P : Nat → Nat → Bool} {l : List (Nat × Nat)} {a e : Nat} : leftP P l a e = true ↔ P a e = true ∧ (a, e) ∉ l := by simp [leftP]

theorem sumTo_point (f g : Nat → Nat) (n x : Nat) (hx : x < n) (h : ∀ k, k < n → k ≠ x → f k = g k) (e : f x + 1 = g x) : sumTo f n + 1 = sumTo g n := by
  induction n with
  | zero => omega
  | succ n ih =>
    simp only [sumTo]
    by_cases hxn : x = n
    · subst hxn
      rw [sumTo_congr (fun k hk => h k (by omega) (by omega))]
      omega
    · have := ih (by omega) (fun k hk => h k (by omega))
      rw [h n (by omega) (fun e => hxn e.symm)]
      omega
/-- One black pixel less. -/
theorem cnt_less (W H : Nat) (P Q : Nat → Nat → Bool) (x y : Nat) (hx : x < W) (hy : y < H) (h1 : P x y = true) (h2 : Q x y = false) (h : ∀ a e, ¬ (a = x ∧ e = y) → Q a e = P a e) : cnt W H Q + 1 = cnt W H P := by
  unfold cnt
  refine sumTo_point _ _ H y hy (fun k _ hky => sumTo_congr (fun a _ => by rw [h a k (fun e => hky e.2)])) ?_
  refine sumTo_point _ _ W x hx (fun a _ hax => by rw [h a y (fun e => hax e.1)]) ?_
  rw [h1, h2]
  rfl
end Go.Proofs.Ytgpciopoionmeaa
