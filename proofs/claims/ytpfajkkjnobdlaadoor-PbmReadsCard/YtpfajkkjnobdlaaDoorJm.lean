/- A scope with several labels that the run jumps to: what holds at each of them, and a number that each pass lowers. -/
import Derived.ScopeJumps
import Derived.WalkMore
namespace Go.Proofs.YtpfajkkjnobdlaaDoor
open Go

def jumpsE (J : Nat → Act → World → Prop) (Q : Exit → Act → World → Prop) : Exit → Act → World → Prop
  | .goto l, a, w => J l a w
  | e, a, w => Q e a w

theorem wp_scope_any {P : Program} {a : Act} {w : World} {Q : Exit → Act → World → Prop} {c : Code} (J : Nat → Nat → Act → World → Prop) (R : Nat → Code)
    (hf : ∀ l n a w, J l n a w → findLabel c l = some (R l))
    (first : c.wp P (jumpsE (fun l a w => ∃ n, J l n a w) Q) a w)
    (pass : ∀ l n a w, J l n a w → (R l).wp P (jumpsE (fun l' a' w' => ∃ m, m < n ∧ J l' m a' w') Q) a w) : (Code.scope c).wp P Q a w := by
  intro b k cs
  have key : ∀ n l a w, J l n a w → ∃ e a' w', Q e a' w' ∧ Arrives P (lone (b.at a (.code (R l) :: .inScope c :: k)) cs w) b k cs e a' w' := by
    intro n
    induction n using Nat.strongRecOn with
    | _ n ih =>
      intro l a w hJ
      obtain ⟨e, a₁, w₁, hq, harr⟩ := pass l n a w hJ b (.inScope c :: k) cs
      cases e with
      | normal => exact ⟨.normal, a₁, w₁, hq, Steps.trans harr (.one step_inScope)⟩
      | exit id => exact ⟨.exit id, a₁, w₁, hq, fun k' hk => harr k' (by simp [exitTo, hk])⟩
      | goto l' =>
        obtain ⟨m, hlt, hJ'⟩ := hq
        obtain ⟨e₂, a₂, w₂, hq₂, harr₂⟩ := ih m hlt l' a₁ w₁ hJ'
        exact ⟨e₂, a₂, w₂, hq₂, .of_steps (harr _ (by simp [gotoIn, hf _ _ _ _ hJ'])) harr₂⟩
      | ret => exact ⟨_, a₁, w₁, hq, harr⟩
      | panic ch => exact ⟨_, a₁, w₁, hq, harr⟩
      | outgrown => exact ⟨_, a₁, w₁, hq, harr⟩
  obtain ⟨e, a₁, w₁, hq, harr⟩ := first b (.inScope c :: k) cs
  cases e with
  | normal => exact ⟨.normal, a₁, w₁, hq, .head step_scope (Steps.trans harr (.one step_inScope))⟩
  | exit id => exact ⟨.exit id, a₁, w₁, hq, fun k' hk => .head step_scope (harr k' (by simp [exitTo, hk]))⟩
  | goto l' =>
    obtain ⟨n, hJ'⟩ := hq
    obtain ⟨e₂, a₂, w₂, hq₂, harr₂⟩ := key n l' a₁ w₁ hJ'
    exact ⟨e₂, a₂, w₂, hq₂, .of_steps (.head step_scope (harr _ (by simp [gotoIn, hf _ _ _ _ hJ']))) harr₂⟩
  | ret => exact ⟨_, a₁, w₁, hq, .of_steps (.one step_scope) harr⟩
  | panic ch => exact ⟨_, a₁, w₁, hq, .of_steps (.one step_scope) harr⟩
  | outgrown => exact ⟨_, a₁, w₁, hq, .of_steps (.one step_scope) harr⟩

/-- One label, below a bound n. -/
def to1 (l0 : Nat) (J : Nat → Act → World → Prop) (B : Nat → Prop) : Nat → Act → World → Prop := fun l a w => l = l0 ∧ ∃ m, B m ∧ J m a w
theorem wp_scope_one {P : Program} {a : Act} {w : World} {Q : Exit → Act → World → Prop} {c r0 : Code} (l0 : Nat) (J : Nat → Act → World → Prop) (h0 : findLabel c l0 = some r0)
    (first : c.wp P (jumpsE (to1 l0 J fun _ => True) Q) a w)
    (pass : ∀ n a w, J n a w → r0.wp P (jumpsE (to1 l0 J (· < n)) Q) a w) : (Code.scope c).wp P Q a w := by
  refine wp_scope_any (fun l n a w => l = l0 ∧ J n a w) (fun _ => r0) ?_ ?_ ?_
  · rintro l n a w ⟨rfl, _⟩; exact h0
  · refine wp_mono first fun e a w h => ?_
    cases e <;> first | exact h | skip
    obtain ⟨h1, m, _, h3⟩ := h
    exact ⟨m, h1, h3⟩
  · rintro l n a w ⟨rfl, hJ⟩
    refine wp_mono (pass n a w hJ) fun e a w h => ?_
    cases e <;> first | exact h | skip
    obtain ⟨h1, m, h2, h3⟩ := h
    exact ⟨m, h2, h1, h3⟩
def to2 (l0 l1 : Nat) (J0 J1 : Nat → Act → World → Prop) (B : Nat → Prop) : Nat → Act → World → Prop := fun l a w => (l = l0 ∧ ∃ m, B m ∧ J0 m a w) ∨ (l = l1 ∧ ∃ m, B m ∧ J1 m a w)
theorem wp_scope_two {P : Program} {a : Act} {w : World} {Q : Exit → Act → World → Prop} {c r0 r1 : Code} (l0 l1 : Nat) (hl : l0 ≠ l1) (J0 J1 : Nat → Act → World → Prop) (h0 : findLabel c l0 = some r0) (h1 : findLabel c l1 = some r1)
    (first : c.wp P (jumpsE (to2 l0 l1 J0 J1 fun _ => True) Q) a w)
    (pass0 : ∀ n a w, J0 n a w → r0.wp P (jumpsE (to2 l0 l1 J0 J1 (· < n)) Q) a w)
    (pass1 : ∀ n a w, J1 n a w → r1.wp P (jumpsE (to2 l0 l1 J0 J1 (· < n)) Q) a w) : (Code.scope c).wp P Q a w := by
  refine wp_scope_any (fun l n a w => (l = l0 ∧ J0 n a w) ∨ (l = l1 ∧ J1 n a w)) (fun l => if l = l0 then r0 else r1) ?_ ?_ ?_
  · rintro l n a w (⟨rfl, _⟩ | ⟨rfl, _⟩)
    · simpa using h0
    · rw [if_neg (fun e => hl e.symm)]; exact h1
  · refine wp_mono first fun e a w h => ?_
    cases e <;> first | exact h | skip
    rcases h with ⟨h1, m, _, h3⟩ | ⟨h1, m, _, h3⟩
    · exact ⟨m, Or.inl ⟨h1, h3⟩⟩
    · exact ⟨m, Or.inr ⟨h1, h3⟩⟩
  · rintro l n a w (⟨rfl, hJ⟩ | ⟨rfl, hJ⟩)
    · rw [if_pos rfl]
      refine wp_mono (pass0 n a w hJ) fun e a w h => ?_
      cases e <;> first | exact h | skip
      rcases h with ⟨h1, m, h2, h3⟩ | ⟨h1, m, h2, h3⟩
      · exact ⟨m, h2, Or.inl ⟨h1, h3⟩⟩
      · exact ⟨m, h2, Or.inr ⟨h1, h3⟩⟩
    · rw [if_neg (fun e => hl e.symm)]
      refine wp_mono (pass1 n a w hJ) fun e a w h => ?_
      cases e <;> first | exact h | skip
      rcases h with ⟨h1, m, h2, h3⟩ | ⟨h1, m, h2, h3⟩
      · exact ⟨m, h2, Or.inl ⟨h1, h3⟩⟩
      · exact ⟨m, h2, Or.inr ⟨h1, h3⟩⟩
def to3 (l0 l1 l2 : Nat) (J0 J1 J2 : Nat → Act → World → Prop) (B : Nat → Prop) : Nat → Act → World → Prop := fun l a w => (l = l0 ∧ ∃ m, B m ∧ J0 m a w) ∨ (l = l1 ∧ ∃ m, B m ∧ J1 m a w) ∨ (l = l2 ∧ ∃ m, B m ∧ J2 m a w)
theorem wp_scope_three {P : Program} {a : Act} {w : World} {Q : Exit → Act → World → Prop} {c r0 r1 r2 : Code} (l0 l1 l2 : Nat) (hl : l0 ≠ l1 ∧ l0 ≠ l2 ∧ l1 ≠ l2) (J0 J1 J2 : Nat → Act → World → Prop) (h0 : findLabel c l0 = some r0) (h1 : findLabel c l1 = some r1) (h2 : findLabel c l2 = some r2)
    (first : c.wp P (jumpsE (to3 l0 l1 l2 J0 J1 J2 fun _ => True) Q) a w)
    (pass0 : ∀ n a w, J0 n a w → r0.wp P (jumpsE (to3 l0 l1 l2 J0 J1 J2 (· < n)) Q) a w)
    (pass1 : ∀ n a w, J1 n a w → r1.wp P (jumpsE (to3 l0 l1 l2 J0 J1 J2 (· < n)) Q) a w)
    (pass2 : ∀ n a w, J2 n a w → r2.wp P (jumpsE (to3 l0 l1 l2 J0 J1 J2 (· < n)) Q) a w) : (Code.scope c).wp P Q a w := by
  refine wp_scope_any (fun l n a w => (l = l0 ∧ J0 n a w) ∨ (l = l1 ∧ J1 n a w) ∨ (l = l2 ∧ J2 n a w)) (fun l => if l = l0 then r0 else if l = l1 then r1 else r2) ?_ ?_ ?_
  · rintro l n a w (⟨rfl, _⟩ | ⟨rfl, _⟩ | ⟨rfl, _⟩)
    · simpa using h0
    · rw [if_neg (fun e => hl.1 e.symm), if_pos rfl]; exact h1
    · rw [if_neg (fun e => hl.2.1 e.symm), if_neg (fun e => hl.2.2 e.symm)]; exact h2
  · refine wp_mono first fun e a w h => ?_
    cases e <;> first | exact h | skip
    rcases h with ⟨h1, m, _, h3⟩ | ⟨h1, m, _, h3⟩ | ⟨h1, m, _, h3⟩
    · exact ⟨m, Or.inl ⟨h1, h3⟩⟩
    · exact ⟨m, Or.inr (Or.inl ⟨h1, h3⟩)⟩
    · exact ⟨m, Or.inr (Or.inr ⟨h1, h3⟩)⟩
  · have fin : ∀ n (e : Exit) a w, jumpsE (to3 l0 l1 l2 J0 J1 J2 (· < n)) Q e a w → jumpsE (fun l' a' w' => ∃ m, m < n ∧ ((l' = l0 ∧ J0 m a' w') ∨ (l' = l1 ∧ J1 m a' w') ∨ (l' = l2 ∧ J2 m a' w'))) Q e a w := by
      intro n e a w h
      cases e <;> first | exact h | skip
      rcases h with ⟨h1, m, h2, h3⟩ | ⟨h1, m, h2, h3⟩ | ⟨h1, m, h2, h3⟩
      · exact ⟨m, h2, Or.inl ⟨h1, h3⟩⟩
      · exact ⟨m, h2, Or.inr (Or.inl ⟨h1, h3⟩)⟩
      · exact ⟨m, h2, Or.inr (Or.inr ⟨h1, h3⟩)⟩
    rintro l n a w (⟨rfl, hJ⟩ | ⟨rfl, hJ⟩ | ⟨rfl, hJ⟩)
    · rw [if_pos rfl]
      exact wp_mono (pass0 n a w hJ) (fin n)
    · rw [if_neg (fun e => hl.1 e.symm), if_pos rfl]
      exact wp_mono (pass1 n a w hJ) (fin n)
    · rw [if_neg (fun e => hl.2.1 e.symm), if_neg (fun e => hl.2.2 e.symm)]
      exact wp_mono (pass2 n a w hJ) (fin n)
theorem jumpsE_mono {J J' : Nat → Act → World → Prop} {Q : Exit → Act → World → Prop} (h : ∀ l a w, J l a w → J' l a w) (e : Exit) (a : Act) (w : World) (k : jumpsE J Q e a w) : jumpsE J' Q e a w := by
  cases e <;> first | exact k | exact h _ _ _ k
theorem to1_mono {l0 : Nat} {J : Nat → Act → World → Prop} {B B' : Nat → Prop} (h : ∀ n, B n → B' n) (l : Nat) (a : Act) (w : World) (k : to1 l0 J B l a w) : to1 l0 J B' l a w := by
  obtain ⟨e, m, hm, hj⟩ := k
  exact ⟨e, m, h m hm, hj⟩
theorem to2_mono {l0 l1 : Nat} {J0 J1 : Nat → Act → World → Prop} {B B' : Nat → Prop} (h : ∀ n, B n → B' n) (l : Nat) (a : Act) (w : World) (k : to2 l0 l1 J0 J1 B l a w) : to2 l0 l1 J0 J1 B' l a w := by
  rcases k with ⟨e, m, hm, hj⟩ | ⟨e, m, hm, hj⟩
  · exact Or.inl ⟨e, m, h m hm, hj⟩
  · exact Or.inr ⟨e, m, h m hm, hj⟩
theorem to3_mono {l0 l1 l2 : Nat} {J0 J1 J2 : Nat → Act → World → Prop} {B B' : Nat → Prop} (h : ∀ n, B n → B' n) (l : Nat) (a : Act) (w : World) (k : to3 l0 l1 l2 J0 J1 J2 B l a w) : to3 l0 l1 l2 J0 J1 J2 B' l a w := by
  rcases k with ⟨e, m, hm, hj⟩ | ⟨e, m, hm, hj⟩ | ⟨e, m, hm, hj⟩
  · exact Or.inl ⟨e, m, h m hm, hj⟩
  · exact Or.inr (Or.inl ⟨e, m, h m hm, hj⟩)
  · exact Or.inr (Or.inr ⟨e, m, h m hm, hj⟩)
theorem skip_seq {P : Program} {x : Code} {Q : Exit → Act → World → Prop} {a : Act} {w : World} (h : x.wp P Q a w) : (Code.skip.seq x).wp P Q a w := wp_seq (wp_skip h)
/-- The first pass may use what was proved of the others. -/
theorem scope_one {P : Program} {a : Act} {w : World} {Q : Exit → Act → World → Prop} {c x0 : Code} (l0 : Nat) (J : Nat → Act → World → Prop) (h0 : findLabel c l0 = some (Code.skip.seq x0))
    (pass : ∀ n a w, J n a w → x0.wp P (jumpsE (to1 l0 J (· < n)) Q) a w)
    (first : (∀ n a w, J n a w → x0.wp P (jumpsE (to1 l0 J fun _ => True) Q) a w) → c.wp P (jumpsE (to1 l0 J fun _ => True) Q) a w) : (Code.scope c).wp P Q a w :=
  wp_scope_one l0 J h0 (first fun n a w h => wp_mono (pass n a w h) (jumpsE_mono (to1_mono fun _ _ => trivial))) (fun n a w h => skip_seq (pass n a w h))
theorem scope_two {P : Program} {a : Act} {w : World} {Q : Exit → Act → World → Prop} {c x0 x1 : Code} (l0 l1 : Nat) (hl : l0 ≠ l1) (J0 J1 : Nat → Act → World → Prop) (h0 : findLabel c l0 = some (Code.skip.seq x0)) (h1 : findLabel c l1 = some (Code.skip.seq x1))
    (pass0 : ∀ n a w, J0 n a w → x0.wp P (jumpsE (to2 l0 l1 J0 J1 (· < n)) Q) a w)
    (pass1 : ∀ n a w, J1 n a w → x1.wp P (jumpsE (to2 l0 l1 J0 J1 (· < n)) Q) a w)
    (first : (∀ n a w, J0 n a w → x0.wp P (jumpsE (to2 l0 l1 J0 J1 fun _ => True) Q) a w) → c.wp P (jumpsE (to2 l0 l1 J0 J1 fun _ => True) Q) a w) : (Code.scope c).wp P Q a w :=
  wp_scope_two l0 l1 hl J0 J1 h0 h1 (first fun n a w h => wp_mono (pass0 n a w h) (jumpsE_mono (to2_mono fun _ _ => trivial))) (fun n a w h => skip_seq (pass0 n a w h)) (fun n a w h => skip_seq (pass1 n a w h))
theorem scope_three {P : Program} {a : Act} {w : World} {Q : Exit → Act → World → Prop} {c x0 x1 x2 : Code} (l0 l1 l2 : Nat) (hl : l0 ≠ l1 ∧ l0 ≠ l2 ∧ l1 ≠ l2) (J0 J1 J2 : Nat → Act → World → Prop) (h0 : findLabel c l0 = some (Code.skip.seq x0)) (h1 : findLabel c l1 = some (Code.skip.seq x1)) (h2 : findLabel c l2 = some (Code.skip.seq x2))
    (pass2 : ∀ n a w, J2 n a w → x2.wp P (jumpsE (to3 l0 l1 l2 J0 J1 J2 (· < n)) Q) a w)
    (pass1 : (∀ n a w, J2 n a w → x2.wp P (jumpsE (to3 l0 l1 l2 J0 J1 J2 (· < n)) Q) a w) → ∀ n a w, J1 n a w → x1.wp P (jumpsE (to3 l0 l1 l2 J0 J1 J2 (· < n)) Q) a w)
    (pass0 : ∀ n a w, J0 n a w → x0.wp P (jumpsE (to3 l0 l1 l2 J0 J1 J2 (· < n)) Q) a w)
    (first : (∀ n a w, J0 n a w → x0.wp P (jumpsE (to3 l0 l1 l2 J0 J1 J2 fun _ => True) Q) a w) → c.wp P (jumpsE (to3 l0 l1 l2 J0 J1 J2 fun _ => True) Q) a w) : (Code.scope c).wp P Q a w :=
  wp_scope_three l0 l1 l2 hl J0 J1 J2 h0 h1 h2 (first fun n a w h => wp_mono (pass0 n a w h) (jumpsE_mono (to3_mono fun _ _ => trivial))) (fun n a w h => skip_seq (pass0 n a w h)) (fun n a w h => skip_seq (pass1 pass2 n a w h)) (fun n a w h => skip_seq (pass2 n a w h))
end Go.Proofs.YtpfajkkjnobdlaaDoor
