/- How often a coder is renewed where each context has its own bit. -/
import Derived.Test.YtkggdnkmaldmlaaK4
namespace Go.Proofs.Ytkggdnkmaldmlaa

/-- A, the states, how often A was doubled. -/
structure Cfg where
  a : Nat
  st : List Nat
  d : Nat
deriving DecidableEq

/-- A doubled until it is 8000 or more, and how often. -/
def dblA : Nat → Nat → Nat × Nat
  | 0, a => (a, 0)
  | n + 1, a => if 2 * a < 32768 then ((dblA n (2 * a)).1, (dblA n (2 * a)).2 + 1) else (2 * a, 1)

theorem renewP_dbl : ∀ (n : Nat) (s : Cs) (d : Nat), 1 ≤ s.t → 12 + 7 * s.b.length ≤ d + s.t → (renewP n s).a = (dblA n s.a).1 ∧ 1 ≤ (renewP n s).t ∧ 12 + 7 * (renewP n s).b.length ≤ d + (dblA n s.a).2 + (renewP n s).t
  | 0, s, d, ht, h => ⟨rfl, ht, h⟩
  | n + 1, s, d, ht, h => by
    have key : 1 ≤ (doubled s).t ∧ 12 + 7 * (doubled s).b.length ≤ (d + 1) + (doubled s).t := by
      unfold doubled
      split
      · rename_i h1
        simp only [outP, List.length_append, List.length_cons, List.length_nil]
        have : 7 ≤ outT (outL (2 * s.c) s.l) := by unfold outT; split <;> omega
        omega
      · simp only []
        omega
    have ha := doubled_a s
    unfold renewP dblA
    rw [ha]
    split
    · rename_i hlt
      obtain ⟨r1, r2, r3⟩ := renewP_dbl n (doubled s) (d + 1) key.1 key.2
      rw [ha] at r1 r3
      exact ⟨r1, r2, by simp only []; omega⟩
    · exact ⟨ha, key.1, by simp only []; omega⟩

/-- The likelier bit, the other one. -/
def mps (c : Cfg) (j : Nat) : Cfg :=
  if 32768 ≤ c.a - rQ (c.st.getD j 0) then { c with a := c.a - rQ (c.st.getD j 0) }
  else if c.a - rQ (c.st.getD j 0) < rQ (c.st.getD j 0) then { a := (dblA 16 (rQ (c.st.getD j 0))).1, st := c.st.set j (rM (c.st.getD j 0)), d := c.d + (dblA 16 (rQ (c.st.getD j 0))).2 }
  else { a := (dblA 16 (c.a - rQ (c.st.getD j 0))).1, st := c.st.set j (rM (c.st.getD j 0)), d := c.d + (dblA 16 (c.a - rQ (c.st.getD j 0))).2 }
def lps (c : Cfg) (j : Nat) : Cfg :=
  if c.a - rQ (c.st.getD j 0) < rQ (c.st.getD j 0) then { a := (dblA 16 (c.a - rQ (c.st.getD j 0))).1, st := c.st.set j (rL (c.st.getD j 0)), d := c.d + (dblA 16 (c.a - rQ (c.st.getD j 0))).2 }
  else { a := (dblA 16 (rQ (c.st.getD j 0))).1, st := c.st.set j (rL (c.st.getD j 0)), d := c.d + (dblA 16 (rQ (c.st.getD j 0))).2 }

/-- A coder as such a row says. -/
structure Is (o : Co) (c : Cfg) : Prop where
  a : o.s.a = c.a
  st : o.x.map (· / 2) = c.st
  tpos : 1 ≤ o.s.t
  len : 12 + 7 * o.s.b.length ≤ c.d + o.s.t

theorem Is.state {o : Co} {c : Cfg} (h : Is o c) (j : Nat) : c.st.getD j 0 = o.x.getD j 0 / 2 := by
  rw [← h.st, List.getD_eq_getElem?_getD, List.getD_eq_getElem?_getD, List.getElem?_map]
  cases o.x[j]? <;> rfl

theorem codeS_parts (s : Cs) (q : Nat) (k : Bool) : (codeS s q k).t = s.t ∧ (codeS s q k).b = s.b := by unfold codeS; split <;> exact ⟨rfl, rfl⟩

theorem Is.put {o : Co} {c : Cfg} (h : Is o c) (i : Int) (j bit : Nat) (hj : placeOf i o.x.length = j) :
    (bit = o.x.getD j 0 % 2 → Is (putP o i bit) (mps c j)) ∧ (¬ bit = o.x.getD j 0 % 2 → Is (putP o i bit) (lps c j)) := by
  have hst := h.state j
  obtain ⟨y, hy⟩ : ∃ y, y = o.x.getD j 0 := ⟨_, rfl⟩
  have e : putP o i bit = { s := codeP o.s y bit, x := o.x.set j (codeX o.s y bit), made := o.made + 1 } := by
    unfold putP; rw [hj, ← hy]
  rw [← hy] at hst ⊢
  obtain ⟨q, hq⟩ : ∃ q, q = rQ (y / 2) := ⟨_, rfl⟩
  have hl : ∀ (k : Bool) (z : Nat), (learnP k z) / 2 = if k then rM (z / 2) else rL (z / 2) := by
    intro k z
    unfold learnP
    cases k
    · simp only [Bool.false_eq_true, if_false]; split <;> omega
    · simp only [if_true]; omega
  have hmap : ∀ z, (o.x.set j z).map (· / 2) = c.st.set j (z / 2) := by intro z; rw [List.map_set, h.st]
  have hself : c.st.set j (y / 2) = c.st := by
    rw [← hst]
    apply List.ext_getElem?
    intro i
    rw [List.getElem?_set]
    split
    · rename_i e; subst e
      split
      · rename_i hk; rw [List.getD_eq_getElem?_getD, List.getElem?_eq_getElem hk]; rfl
      · rename_i hk; rw [List.getElem?_eq_none (by omega)]
    · rfl
  constructor
  · intro hb
    unfold mps
    rw [hst, ← hq, e]
    by_cases h1 : 32768 ≤ c.a - q
    · rw [if_pos h1]
      have hc : bit = y % 2 ∧ 32768 ≤ o.s.a - rQ (y / 2) := ⟨hb, by rw [← hq, h.a]; exact h1⟩
      have e1 : codeP o.s y bit = { o.s with a := o.s.a - rQ (y / 2), c := o.s.c + rQ (y / 2) } := by rw [codeP, if_pos hc]
      have e2 : codeX o.s y bit = y := by rw [codeX, if_pos hc]
      rw [e1, e2]
      exact ⟨by show o.s.a - _ = c.a - q; rw [h.a, hq], by show (o.x.set j y).map _ = c.st; rw [hmap, hself], h.tpos, h.len⟩
    · rw [if_neg h1]
      have hc : ¬ (bit = y % 2 ∧ 32768 ≤ o.s.a - rQ (y / 2)) := by rw [← hq, h.a]; exact fun hh => h1 hh.2
      have e1 : codeP o.s y bit = renewP 16 (codeS o.s q true) := by rw [codeP, if_neg hc, decide_eq_true hb, hq]
      have e2 : codeX o.s y bit = learnP true y := by rw [codeX, if_neg hc, decide_eq_true hb]
      obtain ⟨p1, p2⟩ := codeS_parts o.s q true
      obtain ⟨r1, r2, r3⟩ := renewP_dbl 16 (codeS o.s q true) c.d (by rw [p1]; exact h.tpos) (by rw [p1, p2]; exact h.len)
      rw [e1, e2]
      by_cases h2 : c.a - q < q
      · rw [if_pos h2]
        have ea : (codeS o.s q true).a = q := by unfold codeS; rw [h.a, decide_eq_true h2, if_pos rfl]
        rw [ea] at r1 r3
        exact ⟨r1, by show (o.x.set j _).map _ = _; rw [hmap, hl]; rfl, r2, r3⟩
      · rw [if_neg h2]
        have ea : (codeS o.s q true).a = c.a - q := by unfold codeS; rw [h.a, decide_eq_false h2, if_neg (by decide)]
        rw [ea] at r1 r3
        exact ⟨r1, by show (o.x.set j _).map _ = _; rw [hmap, hl]; rfl, r2, r3⟩
  · intro hb
    unfold lps
    rw [hst, ← hq, e]
    have hc : ¬ (bit = y % 2 ∧ 32768 ≤ o.s.a - rQ (y / 2)) := fun hh => hb hh.1
    have e1 : codeP o.s y bit = renewP 16 (codeS o.s q false) := by rw [codeP, if_neg hc, decide_eq_false hb, hq]
    have e2 : codeX o.s y bit = learnP false y := by rw [codeX, if_neg hc, decide_eq_false hb]
    obtain ⟨p1, p2⟩ := codeS_parts o.s q false
    obtain ⟨r1, r2, r3⟩ := renewP_dbl 16 (codeS o.s q false) c.d (by rw [p1]; exact h.tpos) (by rw [p1, p2]; exact h.len)
    rw [e1, e2]
    by_cases h2 : c.a - q < q
    · rw [if_pos h2]
      have ea : (codeS o.s q false).a = c.a - q := by unfold codeS; rw [h.a, decide_eq_true h2, if_neg (by decide)]
      rw [ea] at r1 r3
      exact ⟨r1, by show (o.x.set j _).map _ = _; rw [hmap, hl]; rfl, r2, r3⟩
    · rw [if_neg h2]
      have ea : (codeS o.s q false).a = q := by unfold codeS; rw [h.a, decide_eq_false h2, if_pos rfl]
      rw [ea] at r1 r3
      exact ⟨r1, by show (o.x.set j _).map _ = _; rw [hmap, hl]; rfl, r2, r3⟩

end Go.Proofs.Ytkggdnkmaldmlaa
