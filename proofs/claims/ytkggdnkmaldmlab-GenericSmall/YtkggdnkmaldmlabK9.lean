/- How often a coder is renewed where each context has its own bit. -/
import Derived.Test.YtkggdnkmaldmlabK4
import Derived.Test.YtkggdnkmaldmlabKBg
namespace Go.Proofs.Ytkggdnkmaldmlab

/-- A, the states, how often A was doubled. -/
structure Cfg where
  a : Nat
  st : List Nat
  d : Nat
deriving DecidableEq

/-- A doubled until it is 8000 or more, and how often. -/
def dblA : Nat → Nat → Nat × Nat
  | 0, a => (a, 0)
  | n + 1, a => if 2 * a < 32768 then ((dblA n (2 * a)).1, (dblA n (2 * a)).2 + 1) else (2 * a, 1)

theorem renewP_dbl : ∀ (n : Nat) (s : Cs) (d : Nat), 1 ≤ s.t → 12 + 7 * s.b.length ≤ d + s.t → (renewP n s).a = (dblA n s.a).1 ∧ 1 ≤ (renewP n s).t ∧ 12 + 7 * (renewP n s).b.length ≤ d + (dblA n s.a).2 + (renewP n s).t
  | 0, s, d, ht, h => ⟨rfl, ht, h⟩
  | n + 1, s, d, ht, h => by
    have key : 1 ≤ (doubled s).t ∧ 12 + 7 * (doubled s).b.length ≤ (d + 1) + (doubled s).t := by
      unfold doubled
      split
      · rename_i h1
        simp only [outP, List.length_append, List.length_cons, List.length_nil]
        have : 7 ≤ outT (outL (2 * s.c) s.l) := by unfold outT; split <;> omega
        omega
      · simp only []
        omega
    have ha := doubled_a s
    unfold renewP dblA
    rw [ha]
    split
    · rename_i hlt
      obtain ⟨r1, r2, r3⟩ := renewP_dbl n (doubled s) (d + 1) key.1 key.2
      rw [ha] at r1 r3
      exact ⟨r1, r2, by simp only []; omega⟩
    · exact ⟨ha, key.1, by simp only []; omega⟩

/-- The likelier bit, the other one. -/
def mps (c : Cfg) (j : Nat) : Cfg :=
  if 32768 ≤ c.a - rQ (c.st.getD j 0) then { c with a := c.a - rQ (c.st.getD j 0) }
  else if c.a - rQ (c.st.getD j 0) < rQ (c.st.getD j 0) then { a := (dblA 16 (rQ (c.st.getD j 0))).1, st := c.st.set j (rM (c.st.getD j 0)), d := c.d + (dblA 16 (rQ (c.st.getD j 0))).2 }
  else { a := (dblA 16 (c.a - rQ (c.st.getD j 0))).1, st := c.st.set j (rM (c.st.getD j 0)), d := c.d + (dblA 16 (c.a - rQ (c.st.getD j 0))).2 }
def lps (c : Cfg) (j : Nat) : Cfg :=
  if c.a - rQ (c.st.getD j 0) < rQ (c.st.getD j 0) then { a := (dblA 16 (c.a - rQ (c.st.getD j 0))).1, st := c.st.set j (rL (c.st.getD j 0)), d := c.d + (dblA 16 (c.a - rQ (c.st.getD j 0))).2 }
  else { a := (dblA 16 (rQ (c.st.getD j 0))).1, st := c.st.set j (rL (c.st.getD j 0)), d := c.d + (dblA 16 (rQ (c.st.getD j 0))).2 }

/-- A coder as such a row says. -/
structure Is (o : Co) (c : Cfg) : Prop where
  a : o.s.a = c.a
  st : o.x.map (· / 2) = c.st
  tpos : 1 ≤ o.s.t
  len : 12 + 7 * o.s.b.length ≤ c.d + o.s.t

theorem Is.state {o : Co} {c : Cfg} (h : Is o c) (j : Nat) : c.st.getD j 0 = o.x.getD j 0 / 2 := by
  rw [← h.st, List.getD_eq_getElem?_getD, List.getD_eq_getElem?_getD, List.getElem?_map]
  cases o.x[j]? <;> rfl

theorem codeS_parts (s : Cs) (q : Nat) (k : Bool) : (codeS s q k).t = s.t ∧ (codeS s q k).b = s.b := by unfold codeS; split <;> exact ⟨rfl, rfl⟩

theorem Is.put {o : Co} {c : Cfg} (h : Is o c) (i : Int) (j bit : Nat) (hj : placeOf i o.x.length = j) :
    (bit = o.x.getD j 0 % 2 → Is (putP o i bit) (mps c j)) ∧ (¬ bit = o.x.getD j 0 % 2 → Is (putP o i bit) (lps c j)) := by
  have hst := h.state j
  obtain ⟨y, hy⟩ : ∃ y, y = o.x.getD j 0 := ⟨_, rfl⟩
  have e : putP o i bit = { s := codeP o.s y bit, x := o.x.set j (codeX o.s y bit), made := o.made + 1 } := by
    unfold putP; rw [hj, ← hy]
  rw [← hy] at hst ⊢
  obtain ⟨q, hq⟩ : ∃ q, q = rQ (y / 2) := ⟨_, rfl⟩
  have hl : ∀ (k : Bool) (z : Nat), (learnP k z) / 2 = if k then rM (z / 2) else rL (z / 2) := by
    intro k z
    unfold learnP
    cases k
    · simp only [Bool.false_eq_true, if_false]; split <;> omega
    · simp only [if_true]; omega
  have hmap : ∀ z, (o.x.set j z).map (· / 2) = c.st.set j (z / 2) := by intro z; rw [List.map_set, h.st]
  have hself : c.st.set j (y / 2) = c.st := by
    rw [← hst]
    apply List.ext_getElem?
    intro i
    rw [List.getElem?_set]
    split
    · rename_i e; subst e
      split
      · rename_i hk; rw [List.getD_eq_getElem?_getD, List.getElem?_eq_getElem hk]; rfl
      · rename_i hk; rw [List.getElem?_eq_none (by omega)]
    · rfl
  constructor
  · intro hb
    unfold mps
    rw [hst, ← hq, e]
    by_cases h1 : 32768 ≤ c.a - q
    · rw [if_pos h1]
      have hc : bit = y % 2 ∧ 32768 ≤ o.s.a - rQ (y / 2) := ⟨hb, by rw [← hq, h.a]; exact h1⟩
      have e1 : codeP o.s y bit = { o.s with a := o.s.a - rQ (y / 2), c := o.s.c + rQ (y / 2) } := by rw [codeP, if_pos hc]
      have e2 : codeX o.s y bit = y := by rw [codeX, if_pos hc]
      rw [e1, e2]
      exact ⟨by show o.s.a - _ = c.a - q; rw [h.a, hq], by show (o.x.set j y).map _ = c.st; rw [hmap, hself], h.tpos, h.len⟩
    · rw [if_neg h1]
      have hc : ¬ (bit = y % 2 ∧ 32768 ≤ o.s.a - rQ (y / 2)) := by rw [← hq, h.a]; exact fun hh => h1 hh.2
      have e1 : codeP o.s y bit = renewP 16 (codeS o.s q true) := by rw [codeP, if_neg hc, decide_eq_true hb, hq]
      have e2 : codeX o.s y bit = learnP true y := by rw [codeX, if_neg hc, decide_eq_true hb]
      obtain ⟨p1, p2⟩ := codeS_parts o.s q true
      obtain ⟨r1, r2, r3⟩ := renewP_dbl 16 (codeS o.s q true) c.d (by rw [p1]; exact h.tpos) (by rw [p1, p2]; exact h.len)
      rw [e1, e2]
      by_cases h2 : c.a - q < q
      · rw [if_pos h2]
        have ea : (codeS o.s q true).a = q := by unfold codeS; rw [h.a, decide_eq_true h2, if_pos rfl]
        rw [ea] at r1 r3
        exact ⟨r1, by show (o.x.set j _).map _ = _; rw [hmap, hl]; rfl, r2, r3⟩
      · rw [if_neg h2]
        have ea : (codeS o.s q true).a = c.a - q := by unfold codeS; rw [h.a, decide_eq_false h2, if_neg (by decide)]
        rw [ea] at r1 r3
        exact ⟨r1, by show (o.x.set j _).map _ = _; rw [hmap, hl]; rfl, r2, r3⟩
  · intro hb
    unfold lps
    rw [hst, ← hq, e]
    have hc : ¬ (bit = y % 2 ∧ 32768 ≤ o.s.a - rQ (y / 2)) := fun hh => hb hh.1
    have e1 : codeP o.s y bit = renewP 16 (codeS o.s q false) := by rw [codeP, if_neg hc, decide_eq_false hb, hq]
    have e2 : codeX o.s y bit = learnP false y := by rw [codeX, if_neg hc, decide_eq_false hb]
    obtain ⟨p1, p2⟩ := codeS_parts o.s q false
    obtain ⟨r1, r2, r3⟩ := renewP_dbl 16 (codeS o.s q false) c.d (by rw [p1]; exact h.tpos) (by rw [p1, p2]; exact h.len)
    rw [e1, e2]
    by_cases h2 : c.a - q < q
    · rw [if_pos h2]
      have ea : (codeS o.s q false).a = c.a - q := by unfold codeS; rw [h.a, decide_eq_true h2, if_neg (by decide)]
      rw [ea] at r1 r3
      exact ⟨r1, by show (o.x.set j _).map _ = _; rw [hmap, hl]; rfl, r2, r3⟩
    · rw [if_neg h2]
      have ea : (codeS o.s q false).a = q := by unfold codeS; rw [h.a, decide_eq_false h2, if_pos rfl]
      rw [ea] at r1 r3
      exact ⟨r1, by show (o.x.set j _).map _ = _; rw [hmap, hl]; rfl, r2, r3⟩

end Go.Proofs.Ytkggdnkmaldmlab

/- Decisions that say 'as above': how few bytes they cost. -/
namespace Go.Proofs.Ytkggdnkmaldmlab

/-- Bytes against doublings. -/
def Lb (o : Co) (d : Nat) : Prop := 1 ≤ o.s.t ∧ 12 + 7 * o.s.b.length ≤ d + o.s.t
theorem dbl_one {v : Nat} (h1 : 16384 ≤ v) : dblA 16 v = (2 * v, 1) := by
  unfold dblA; rw [if_neg (by omega)]
theorem dbl_two {v : Nat} (h1 : 8192 ≤ v) : (dblA 16 v).2 ≤ 2 := by
  by_cases h : 16384 ≤ v
  · rw [dbl_one h]; exact Nat.le_succ 1
  · unfold dblA
    rw [if_pos (by omega)]
    simp only []
    unfold dblA
    rw [if_neg (by omega)]
    exact Nat.le_refl 2
theorem rQ_all (s : Nat) : rQ s ≤ 22017 := by
  by_cases h : s < 47
  · exact (rQ_bd s h).2
  · unfold rQ
    rw [List.getD_eq_getElem?_getD, List.getElem?_eq_none (by show qs.length ≤ s; have : qs.length = 47 := rfl; omega)]; simp
theorem set_get (x : List Nat) (j v : Nat) (hj : j < x.length) : (x.set j v).getD j 0 = v := by
  rw [List.getD_eq_getElem?_getD, List.getElem?_set_self hj]; rfl

/-- The likelier bit. -/
theorem step_mps {o : Co} (hok : Cok o.s) {d : Nat} (hl : Lb o d) (i : Int) (j bit y : Nat) (hj : placeOf i o.x.length = j) (hjl : j < o.x.length) (hy : o.x.getD j 0 = y) (hb : bit = y % 2) :
    (Lb (putP o i bit) d ∧ (putP o i bit).x.getD j 0 = y ∧ (putP o i bit).s.a = o.s.a - rQ (y / 2) ∧ 32768 ≤ o.s.a - rQ (y / 2)) ∨
    (Lb (putP o i bit) (d + 1) ∧ (putP o i bit).x.getD j 0 = learnP true y ∧ o.s.a - rQ (y / 2) < 32768 ∧ (rQ (y / 2) ≤ o.s.a - rQ (y / 2) → (putP o i bit).s.a = 2 * (o.s.a - rQ (y / 2)))) := by
  have hI : Is o ⟨o.s.a, o.x.map (· / 2), d⟩ := ⟨rfl, rfl, hl.1, hl.2⟩
  have hp := (hI.put i j bit hj).1 (by rw [hy]; exact hb)
  have hs := hI.state j
  rw [hy] at hs
  have hh := hok.half
  have hq := rQ_all (y / 2)
  unfold mps at hp
  rw [hs] at hp
  simp only [] at hp
  have hx : (putP o i bit).x.getD j 0 = codeX o.s y bit := by
    show (o.x.set (placeOf i o.x.length) (codeX o.s (o.x.getD (placeOf i o.x.length) 0) bit)).getD j 0 = _
    rw [hj, hy]; exact set_get _ _ _ hjl
  by_cases h1 : 32768 ≤ o.s.a - rQ (y / 2)
  · rw [if_pos h1] at hp
    left
    refine ⟨⟨hp.tpos, hp.len⟩, ?_, hp.a, h1⟩
    rw [hx, codeX, if_pos ⟨hb, h1⟩]
  · rw [if_neg h1] at hp
    right
    have hxx : (putP o i bit).x.getD j 0 = learnP true y := by rw [hx, codeX, if_neg (fun h => h1 h.2), decide_eq_true hb]
    by_cases h2 : o.s.a - rQ (y / 2) < rQ (y / 2)
    · rw [if_pos h2, dbl_one (by omega)] at hp
      exact ⟨⟨hp.tpos, hp.len⟩, hxx, by omega, fun h => by omega⟩
    · rw [if_neg h2, dbl_one (by omega)] at hp
      exact ⟨⟨hp.tpos, hp.len⟩, hxx, by omega, fun _ => hp.a⟩
/-- The other bit, in a state whose Q is great. -/
theorem step_lps {o : Co} (hok : Cok o.s) {d : Nat} (hl : Lb o d) (i : Int) (j bit y : Nat) (hj : placeOf i o.x.length = j) (hjl : j < o.x.length) (hy : o.x.getD j 0 = y) (hb : ¬ bit = y % 2) (hq8 : 8192 ≤ rQ (y / 2)) :
    Lb (putP o i bit) (d + 2) ∧ (putP o i bit).x.getD j 0 = learnP false y := by
  have hI : Is o ⟨o.s.a, o.x.map (· / 2), d⟩ := ⟨rfl, rfl, hl.1, hl.2⟩
  have hp := (hI.put i j bit hj).2 (by rw [hy]; exact hb)
  have hs := hI.state j
  rw [hy] at hs
  have hh := hok.half
  have hq := rQ_all (y / 2)
  unfold lps at hp
  rw [hs] at hp
  simp only [] at hp
  have hx : (putP o i bit).x.getD j 0 = learnP false y := by
    show (o.x.set (placeOf i o.x.length) (codeX o.s (o.x.getD (placeOf i o.x.length) 0) bit)).getD j 0 = _
    rw [hj, hy, set_get _ _ _ hjl, codeX, if_neg (fun h => hb h.1), decide_eq_false hb]
  refine ⟨⟨hp.tpos, ?_⟩, hx⟩
  have hlen := hp.len
  by_cases h2 : o.s.a - rQ (y / 2) < rQ (y / 2)
  · rw [if_pos h2] at hlen
    have := dbl_two (v := o.s.a - rQ (y / 2)) (by omega)
    simp only [] at hlen
    omega
  · rw [if_neg h2] at hlen
    have := dbl_two hq8
    simp only [] at hlen
    omega

/-- How many states lie ahead of the last one. -/
def psi (s : Nat) : Nat := if s ≤ 5 then 13 - s else if s ≤ 13 then 30 - s else 45 - s
theorem psi_next : ∀ s, s < 45 → rM s ≤ 45 ∧ psi (rM s) + 1 ≤ psi s := by decide
def ones (o : Co) (i : Int) : Nat → Co
  | 0 => o
  | n + 1 => ones (putP o i 1) i n
theorem ones_run (o : Co) (i : Int) : ∀ n, ones o i n = runL o (List.replicate n (i, 1))
  | 0 => rfl
  | n + 1 => by rw [ones, ones_run (putP o i 1) i n]; rfl
def bd (s a r : Nat) : Nat := if s = 45 then (if 32768 + r ≤ a then 0 else 1) else psi s + 1
theorem bd_le (s a r : Nat) : bd s a r ≤ psi s + 1 := by
  unfold bd
  split
  · split <;> omega
  · omega
theorem ones_cost (i : Int) (j : Nat) : ∀ (r : Nat) (o : Co) (d s : Nat), Ook o → o.made + r ≤ 16777216 → r ≤ 100 → Lb o d → placeOf i o.x.length = j → j < o.x.length → o.x.getD j 0 = 2 * s + 1 → s ≤ 45 → Lb (ones o i r) (d + bd s o.s.a r)
  | 0, o, d, s, _, _, _, hl, _, _, _, _ => by
    rw [show ones o i 0 = o from rfl]
    exact ⟨hl.1, by have := hl.2; omega⟩
  | r + 1, o, d, s, hok, hm, hr, hl, hj, hjl, hy, hs => by
    rw [ones]
    have hxl : (putP o i 1).x.length = o.x.length := putP_xlen o i 1
    have hok2 := putP_ok hok i 1 (by omega)
    have hs2 : (2 * s + 1) / 2 = s := by omega
    have hla : learnP true (2 * s + 1) = 2 * rM s + 1 := by
      unfold learnP
      rw [if_pos rfl, hs2]; omega
    have hhalf := hok.ok.half
    rcases step_mps hok.ok hl i j 1 (2 * s + 1) hj hjl hy (by omega) with ⟨k1, k2, k3, k4⟩ | ⟨k1, k2, k3, k4⟩
    · have ih := ones_cost i j r (putP o i 1) d s hok2 (by show o.made + 1 + r ≤ _; omega) (by omega) k1 (by rw [hxl]; exact hj) (by rw [hxl]; exact hjl) k2 hs
      refine ⟨ih.1, ?_⟩
      have h2 := ih.2
      have : bd s (putP o i 1).s.a r ≤ bd s o.s.a (r + 1) := by
        unfold bd
        by_cases h45 : s = 45
        · rw [if_pos h45, if_pos h45]
          rw [k3, hs2]
          subst h45
          have e1 : rQ 45 = 1 := rfl
          rw [e1] at k4 ⊢
          by_cases h : 32768 + (r + 1) ≤ o.s.a
          · rw [if_pos h, if_pos (by omega)]; omega
          · rw [if_neg h]; split <;> omega
        · rw [if_neg h45, if_neg h45]; omega
      omega
    · rw [hla] at k2
      rw [hs2] at k3 k4
      by_cases h45 : s = 45
      · subst h45
        have e1 : rQ 45 = 1 := rfl
        have e2 : rM 45 = 45 := rfl
        rw [e1] at k3 k4
        rw [e2] at k2
        have ha : (putP o i 1).s.a = 65534 := by rw [k4 (by omega)]; omega
        have ih := ones_cost i j r (putP o i 1) (d + 1) 45 hok2 (by show o.made + 1 + r ≤ _; omega) (by omega) k1 (by rw [hxl]; exact hj) (by rw [hxl]; exact hjl) k2 (by omega)
        refine ⟨ih.1, ?_⟩
        have h2 := ih.2
        have b1 : bd 45 (putP o i 1).s.a r = 0 := by unfold bd; rw [if_pos rfl, ha, if_pos (by omega)]
        have b2 : bd 45 o.s.a (r + 1) = 1 := by unfold bd; rw [if_pos rfl, if_neg (by omega)]
        omega
      · obtain ⟨p1, p2⟩ := psi_next s (by omega)
        have ih := ones_cost i j r (putP o i 1) (d + 1) (rM s) hok2 (by show o.made + 1 + r ≤ _; omega) (by omega) k1 (by rw [hxl]; exact hj) (by rw [hxl]; exact hjl) k2 p1
        refine ⟨ih.1, ?_⟩
        have h2 := ih.2
        have b1 := bd_le (rM s) (putP o i 1).s.a r
        have b2 : bd s o.s.a (r + 1) = psi s + 1 := by unfold bd; rw [if_neg h45]
        omega

theorem ones_succ (o : Co) (i : Int) (n m : Nat) (h : n = m + 1) : ones o i n = ones (putP o i 1) i m := by subst h; rfl
theorem rq0 : 8192 ≤ rQ (0 / 2) := by decide
theorem rq2 : 8192 ≤ rQ (2 / 2) := by decide
theorem rq12 : 8192 ≤ rQ (12 / 2) := by decide
theorem le0 : learnP false 0 = 2 * 1 + 1 := by decide
theorem le2 : learnP false 2 = 12 := by decide
theorem le12 : learnP false 12 = 2 * 6 + 1 := by decide
/-- Forty-nine of them behind one other decision. -/
theorem ones_few (i : Int) (j : Nat) (o : Co) (d : Nat) (hok : Ook o) (hm : o.made + 49 ≤ 16777216) (hl : Lb o d) (hj : placeOf i o.x.length = j) (hjl : j < o.x.length) (hy : o.x.getD j 0 = 0 ∨ o.x.getD j 0 = 2 ∨ o.x.getD j 0 = 3) : Lb (ones o i 49) (d + 29) := by
  have up : ∀ (o' : Co) (d1 d2 : Nat), Lb o' d1 → d1 ≤ d2 → Lb o' d2 := fun o' d1 d2 h hd => ⟨h.1, by have := h.2; omega⟩
  have hxl : (putP o i 1).x.length = o.x.length := putP_xlen o i 1
  have hok2 := putP_ok hok i 1 (by omega)
  rcases hy with hy | hy | hy
  · obtain ⟨k1, k2⟩ := step_lps hok.ok hl i j 1 0 hj hjl hy (by omega) rq0
    rw [le0] at k2
    rw [ones_succ o i 49 48 rfl]
    have := ones_cost i j 48 (putP o i 1) (d + 2) 1 hok2 (by show o.made + 1 + 48 ≤ _; omega) (by omega) k1 (by rw [hxl]; exact hj) (by rw [hxl]; exact hjl) k2 (by omega)
    have hb := bd_le 1 (putP o i 1).s.a 48
    have e : psi 1 = 12 := rfl
    exact up _ _ _ this (by omega)
  · obtain ⟨k1, k2⟩ := step_lps hok.ok hl i j 1 2 hj hjl hy (by omega) rq2
    rw [le2] at k2
    rw [ones_succ o i 49 48 rfl, ones_succ (putP o i 1) i 48 47 rfl]
    have hxl2 : (putP (putP o i 1) i 1).x.length = o.x.length := by rw [putP_xlen, hxl]
    have hok3 := putP_ok hok2 i 1 (by show o.made + 1 < _; omega)
    obtain ⟨m1, m2⟩ := step_lps hok2.ok k1 i j 1 12 (by rw [hxl]; exact hj) (by rw [hxl]; exact hjl) k2 (by omega) rq12
    rw [le12] at m2
    have := ones_cost i j 47 (putP (putP o i 1) i 1) (d + 2 + 2) 6 hok3 (by show o.made + 1 + 1 + 47 ≤ _; omega) (by omega) m1 (by rw [hxl2]; exact hj) (by rw [hxl2]; exact hjl) m2 (by omega)
    have hb := bd_le 6 (putP (putP o i 1) i 1).s.a 47
    have e : psi 6 = 24 := rfl
    exact up _ _ _ this (by omega)
  · have := ones_cost i j 49 o d 1 hok (by omega) (by omega) hl hj hjl hy (by omega)
    have hb := bd_le 1 o.s.a 49
    have e : psi 1 = 12 := rfl
    exact up _ _ _ this (by omega)

theorem flushP_len (s : Cs) : s.b.length + 1 ≤ (flushP s).length ∧ (flushP s).length ≤ s.b.length + 2 := by
  have h2 := flush_two s
  unfold flushP
  split
  · rw [List.length_drop]; omega
  · rw [List.length_drop, List.length_append]; simp; omega
theorem ones_bytes (i : Int) (j : Nat) (o : Co) (hok : Ook o) (hm : o.made + 49 ≤ 16777216) (hj : placeOf i o.x.length = j) (hjl : j < o.x.length) (hy : o.x.getD j 0 = 0 ∨ o.x.getD j 0 = 2 ∨ o.x.getD j 0 = 3) : (flushP (ones o i 49).s).length ≤ (flushP o.s).length + 8 := by
  have ht := hok.ok.cw.tlt
  have htp := hok.ok.cw.tpos
  have hl : Lb o (12 + 7 * o.s.b.length - o.s.t) := ⟨htp, by omega⟩
  have h1 := ones_few i j o _ hok hm hl hj hjl hy
  have h2 : (ones o i 49).s.t ≤ 12 := by
    rw [ones_run]
    exact (runL_ok hok _ (by rw [List.length_replicate]; omega)).1.ok.cw.tlt
  have f1 := flushP_len o.s
  have f2 := flushP_len (ones o i 49).s
  have := h1.2
  omega

/-- Another context is left alone. -/
theorem put_other (o : Co) (i : Int) (b j : Nat) (h : placeOf i o.x.length ≠ j) : (putP o i b).x.getD j 0 = o.x.getD j 0 := by
  show (o.x.set _ _).getD j 0 = _
  rw [List.getD_eq_getElem?_getD, List.getElem?_set_ne h, List.getD_eq_getElem?_getD]
theorem run_other (j n : Nat) : ∀ (L : List (Int × Nat)) (o : Co), o.x.length = n → (∀ p ∈ L, placeOf p.1 n ≠ j) → (runL o L).x.getD j 0 = o.x.getD j 0
  | [], o, _, _ => rfl
  | p :: L, o, hn, h => by
    show (runL (putP o p.1 p.2) L).x.getD j 0 = _
    rw [run_other j n L (putP o p.1 p.2) (by rw [putP_xlen, hn]) (fun q hq => h q (List.mem_cons_of_mem _ hq)), put_other]
    rw [hn]; exact h p (List.mem_cons_self ..)
theorem pixD_ctx (base t W : Nat) (P : Pxs) (y : Nat) : ∀ n, ∀ p ∈ pixD base t W P y n, ∃ c, c < sizeT t ∧ p.1 = ((base + c : Nat) : Int)
  | 0, p, h => by simp [pixD] at h
  | n + 1, p, h => by
    simp only [pixD, List.mem_append, List.mem_singleton] at h
    rcases h with h | rfl
    · exact pixD_ctx base t W P y n p h
    · exact ⟨cxJ W P t n y, cxJ_lt W P t n y, rfl⟩
/-- The skip's context behind a first row. -/
theorem first_row (t W : Nat) (P : Pxs) (ht : t < 4) : (runL (newP (sizeT t + 1)) (rowD 0 t W true P 0)).x.getD (sizeT t) 0 = 0 ∨ (runL (newP (sizeT t + 1)) (rowD 0 t W true P 0)).x.getD (sizeT t) 0 = 2 ∨ (runL (newP (sizeT t + 1)) (rowD 0 t W true P 0)).x.getD (sizeT t) 0 = 3 := by
  have hZ := sizeT_le t ht
  have hp : placeOf ((0 + sizeT t : Nat) : Int) (newP (sizeT t + 1)).x.length = sizeT t := by
    simp only [newP, List.length_replicate, Nat.zero_add]
    exact placeOf_nat _ _ (by omega)
  have h0 : (newP (sizeT t + 1)).x.getD (sizeT t) 0 = 0 := by
    simp [newP, List.getD_eq_getElem?_getD]
  have hl : sizeT t < (newP (sizeT t + 1)).x.length := by simp [newP]
  have hx : ∀ b, (putP (newP (sizeT t + 1)) ((0 + sizeT t : Nat) : Int) b).x.getD (sizeT t) 0 = codeX (newP (sizeT t + 1)).s 0 b := fun b => by
    show (List.set _ (placeOf _ _) (codeX _ (List.getD _ (placeOf _ _) 0) b)).getD (sizeT t) 0 = _
    rw [hp, h0]; exact set_get _ _ _ hl
  unfold rowD
  simp only [if_true]
  have ho : ∀ b (L : List (Int × Nat)), (∀ p ∈ L, ∃ c, c < sizeT t ∧ p.1 = ((0 + c : Nat) : Int)) → (runL (newP (sizeT t + 1)) ((((0 + sizeT t : Nat) : Int), b) :: L)).x.getD (sizeT t) 0 = codeX (newP (sizeT t + 1)).s 0 b := fun b L hL => by
    show (runL (putP (newP (sizeT t + 1)) ((0 + sizeT t : Nat) : Int) b) L).x.getD (sizeT t) 0 = _
    rw [run_other (sizeT t) (sizeT t + 1) L _ (by rw [putP_xlen]; simp [newP]) (fun p hp2 => ?_), hx]
    obtain ⟨c, hc, e⟩ := hL p hp2
    rw [e, placeOf_nat _ _ (by omega)]
    omega
  have hc0 : codeX (newP (sizeT t + 1)).s 0 0 = 0 ∨ codeX (newP (sizeT t + 1)).s 0 0 = 2 := by
    unfold codeX
    split
    · left; rfl
    · right; decide
  have hc1 : codeX (newP (sizeT t + 1)).s 0 1 = 3 := by
    unfold codeX
    rw [if_neg (fun h => by have := h.1; omega)]
    rfl
  cases hs : sameR W P 0
  · simp only [Bool.toNat_false, Bool.false_eq_true, if_false]
    rw [ho 0 _ (fun p hp2 => by obtain ⟨c, a, b⟩ := pixD_ctx 0 t W P 0 W p hp2; exact ⟨c, a, b⟩)]
    rcases hc0 with h | h
    · exact Or.inl h
    · exact Or.inr (Or.inl h)
  · simp only [Bool.toNat_true, if_true]
    rw [ho 1 [] (fun p hp2 => by simp at hp2), hc1]
    exact Or.inr (Or.inr rfl)
/-- Rows that are all the first one. -/
theorem rowsD_same (t W : Nat) (P Q : Pxs) (ht : t < 4) (h0 : ∀ x, x < W → P x 0 = Q x 0) (h : ∀ x y, x < W → P x y = Q x 0) : ∀ k, rowsD 0 t W true P (1 + k) = rowsD 0 t W true Q 1 ++ List.replicate k (((0 + sizeT t : Nat) : Int), 1)
  | 0 => by
    simp only [Nat.add_zero, List.replicate_zero, List.append_nil]
    show rowsD 0 t W true P 0 ++ rowD 0 t W true P 0 = rowsD 0 t W true Q 0 ++ rowD 0 t W true Q 0
    have hs : sameR W P 0 = sameR W Q 0 := by
      unfold sameR upP
      refine decide_eq_decide.2 ⟨fun hh x hx => ?_, fun hh x hx => ?_⟩
      · rw [← h0 x hx]; exact hh x hx
      · rw [h0 x hx]; exact hh x hx
    have hp : ∀ n, n ≤ W → pixD 0 t W P 0 n = pixD 0 t W Q 0 n := by
      intro n
      induction n with
      | zero => intro _; rfl
      | succ n ih =>
        intro hn
        rw [pixD, pixD, ih (by omega), h0 n (by omega), cxJ_congr W P Q t n 0 ht (fun a b ha hb => by
          obtain ⟨rfl, _⟩ : b = 0 ∧ a < n := by omega
          exact h0 a ha)]
    unfold rowD
    rw [hs, hp W (Nat.le_refl _)]
    rfl
  | k + 1 => by
    rw [← Nat.add_assoc, rowsD, rowsD_same t W P Q ht h0 h k, List.replicate_succ', List.append_assoc]
    have hs : sameR W P (1 + k) = true := decide_eq_true (fun x hx => by
      unfold upP
      rw [if_neg (by omega), h x _ hx, h x _ hx])
    unfold rowD
    rw [hs]
    simp
theorem repeats_len (t W : Nat) (P Q : Pxs) (ht : t < 4) (hW : W ≤ 1000) (h : ∀ x y, x < W → P x y = Q x 0) : (codedB (sizeT t + 1) (rowsD 0 t W true P 50)).length ≤ (codedB (sizeT t + 1) (rowsD 0 t W true Q 1)).length + 8 := by
  have hZ := sizeT_le t ht
  have e := rowsD_same t W P Q ht (fun x hx => h x 0 hx) h 49
  rw [show 1 + 49 = 50 from rfl] at e
  have hl := rowsD_length 0 t W true Q 1
  obtain ⟨a1, a2, a3⟩ := runL_ok (newP_ok (n := sizeT t + 1) (by omega) (by omega)) (rowsD 0 t W true Q 1) (by show 0 + _ ≤ _; omega)
  have hmade : (newP (sizeT t + 1)).made = 0 := rfl
  have hxl : (newP (sizeT t + 1)).x.length = sizeT t + 1 := by simp [newP]
  unfold codedB
  rw [e, runL_cat, ← ones_run]
  have e1 : rowsD 0 t W true Q 1 = rowD 0 t W true Q 0 := by show rowsD 0 t W true Q 0 ++ _ = _; rfl
  refine ones_bytes _ (sizeT t) _ a1 (by omega) ?_ (by omega) ?_
  · rw [a3, hxl, Nat.zero_add]; exact placeOf_nat _ _ (by omega)
  · rw [e1]; exact first_row t W Q ht

end Go.Proofs.Ytkggdnkmaldmlab

/- Bitmaps of one colour: how few bytes they cost. -/
namespace Go.Proofs.Ytkggdnkmaldmlab

/-- How far the size has come down since it was whole, in steps. -/
def pA (A : Nat) : Nat :=
  if 65534 ≤ A then 0
  else if A = 52221 ∨ A = 52222 ∨ A = 59389 ∨ A = 59390 ∨ 62781 ≤ A then 1
  else if A = 38908 ∨ A = 38909 ∨ A = 46076 ∨ A = 46077 ∨ 49468 ≤ A then 2
  else if 36155 ≤ A then 3 else 4
theorem pA_le (A : Nat) : pA A ≤ 4 := by
  unfold pA; repeat' split
  all_goals omega
theorem pA_step {A Q : Nat} (h : A < 65536) (hq : Q ≤ 2753 ∨ Q = 6145 ∨ Q = 13313) (h2 : 32768 ≤ A - Q) : pA (A - Q) ≤ pA A + 1 := by
  have key : ∀ B, B = A - Q → pA B ≤ pA A + 1 := by
    intro B hB
    have hA : A = B + Q := by omega
    have hB2 : 32768 ≤ B := by omega
    clear h2 hB
    subst hA
    unfold pA
    rcases hq with hq | rfl | rfl
    all_goals (repeat' split)
    all_goals omega
  exact key _ rfl

/-- The states that a context comes through whose bit is always 1. -/
def onS (s : Nat) : Bool := decide (1 ≤ s ∧ s ≤ 5) || decide (38 ≤ s ∧ s ≤ 45)
def Onp (y : Nat) : Prop := y = 0 ∨ ∃ s, y = 2 * s + 1 ∧ s < 46 ∧ onS s = true
def rem (y : Nat) : Nat := if y = 0 then 13 else psi (y / 2)
theorem onS_q : ∀ s, s < 46 → onS s = true → rQ s ≤ 2753 ∨ rQ s = 6145 ∨ rQ s = 13313 := by decide
theorem onS_m : ∀ s, s < 46 → onS s = true → rM s < 46 ∧ onS (rM s) = true := by decide
def pot (S : List Nat) (x : List Nat) : Nat := (S.map fun k => rem (x.getD k 0)).sum
theorem pot_le (x x' : List Nat) : ∀ S : List Nat, (∀ k ∈ S, rem (x'.getD k 0) ≤ rem (x.getD k 0)) → pot S x' ≤ pot S x
  | [], _ => Nat.le_refl _
  | k :: S, h => by
    have ih := pot_le x x' S fun k hk => h k (List.mem_cons_of_mem _ hk)
    have h0 := h k List.mem_cons_self
    unfold pot at ih ⊢
    simp only [List.map_cons, List.sum_cons]
    omega
theorem pot_lt (x x' : List Nat) (j : Nat) (hj : rem (x'.getD j 0) + 1 ≤ rem (x.getD j 0)) : ∀ S : List Nat, j ∈ S → (∀ k ∈ S, rem (x'.getD k 0) ≤ rem (x.getD k 0)) → pot S x' + 1 ≤ pot S x
  | [], hm, _ => by cases hm
  | k :: S, hm, h => by
    have h0 := h k List.mem_cons_self
    rcases List.mem_cons.1 hm with rfl | hm
    · have ih := pot_le x x' S fun k hk => h k (List.mem_cons_of_mem _ hk)
      unfold pot at ih ⊢
      simp only [List.map_cons, List.sum_cons]
      omega
    · have ih := pot_lt x x' j hj S hm fun k hk => h k (List.mem_cons_of_mem _ hk)
      unfold pot at ih ⊢
      simp only [List.map_cons, List.sum_cons]
      omega
/-- What is paid for. -/
structure Pay (S : List Nat) (o : Co) (M : Nat) : Prop where
  path : ∀ k ∈ S, Onp (o.x.getD k 0)
  paid : ∃ d, Lb o d ∧ 32 * d + 7 * pA o.s.a + 92 * pot S o.x ≤ M
theorem Pay.put {S : List Nat} {o : Co} {M : Nat} (h : Pay S o M) (hok : Ook o) (i : Int) (j : Nat) (hj : placeOf i o.x.length = j) (hjl : j < o.x.length) (hS : j ∈ S) : Pay S (putP o i 1) (M + 7) := by
  obtain ⟨d, hl, hM⟩ := h.paid
  have hoth : ∀ k, k ≠ j → (putP o i 1).x.getD k 0 = o.x.getD k 0 := fun k hk => put_other o i 1 k (by rw [hj]; exact fun h => hk h.symm)
  have halt := hok.ok.cw.alt
  have hp4 := pA_le (putP o i 1).s.a
  have build : ∀ y d', (putP o i 1).x.getD j 0 = y → Onp y → Lb (putP o i 1) d' → rem y + 1 ≤ rem (o.x.getD j 0) → d' ≤ d + 2 → Pay S (putP o i 1) (M + 7) := fun y d' e1 e2 e3 e4 e5 => by
    refine ⟨fun k hk => ?_, d', e3, ?_⟩
    · by_cases hkj : k = j
      · subst hkj; rw [e1]; exact e2
      · rw [hoth k hkj]; exact h.path k hk
    · have := pot_lt o.x (putP o i 1).x j (by rw [e1]; exact e4) S hS fun k hk => by
        by_cases hkj : k = j
        · subst hkj; rw [e1]; omega
        · rw [hoth k hkj]; exact Nat.le_refl _
      omega
  rcases h.path j hS with hy | ⟨s, hy, hs, hon⟩
  · obtain ⟨k1, k2⟩ := step_lps hok.ok hl i j 1 0 hj hjl hy (by omega) rq0
    exact build _ _ k2 (Or.inr ⟨1, by decide, by decide, by decide⟩) k1 (by rw [hy]; decide) (Nat.le_refl _)
  · have hs2 : (2 * s + 1) / 2 = s := by omega
    have hla : learnP true (2 * s + 1) = 2 * rM s + 1 := by
      unfold learnP
      rw [if_pos rfl, hs2]; omega
    rcases step_mps hok.ok hl i j 1 (2 * s + 1) hj hjl hy (by omega) with ⟨k1, k2, k3, k4⟩ | ⟨k1, k2, k3, k4⟩
    · have hsame : ∀ k, (putP o i 1).x.getD k 0 = o.x.getD k 0 := fun k => by
        by_cases hkj : k = j
        · subst hkj; rw [k2, hy]
        · exact hoth k hkj
      refine ⟨fun k hk => by rw [hsame]; exact h.path k hk, d, k1, ?_⟩
      have hpot : pot S (putP o i 1).x ≤ pot S o.x := pot_le _ _ S fun k _ => by rw [hsame]; exact Nat.le_refl _
      rw [hs2] at k3 k4
      have hst := pA_step halt (onS_q s hs hon) k4
      rw [← k3] at hst
      omega
    · rw [hla] at k2
      rw [hs2] at k3 k4
      by_cases h45 : s = 45
      · subst h45
        have e1 : rQ 45 = 1 := rfl
        have e2 : rM 45 = 45 := rfl
        rw [e1] at k3 k4
        rw [e2] at k2
        have hh := hok.ok.half
        have ha0 : o.s.a = 32768 := by omega
        have ha : (putP o i 1).s.a = 65534 := by rw [k4 (by omega)]; omega
        have hsame : ∀ k, (putP o i 1).x.getD k 0 = o.x.getD k 0 := fun k => by
          by_cases hkj : k = j
          · subst hkj; rw [k2, hy]
          · exact hoth k hkj
        refine ⟨fun k hk => by rw [hsame]; exact h.path k hk, d + 1, k1, ?_⟩
        have hpot : pot S (putP o i 1).x ≤ pot S o.x := pot_le _ _ S fun k _ => by rw [hsame]; exact Nat.le_refl _
        rw [ha0] at hM
        rw [ha]
        have p1 : pA 32768 = 4 := by decide
        have p2 : pA 65534 = 0 := by decide
        omega
      · obtain ⟨m1, m2⟩ := onS_m s hs hon
        obtain ⟨_, p2⟩ := psi_next s (by omega)
        refine build _ _ k2 (Or.inr ⟨rM s, rfl, m1, m2⟩) k1 ?_ (by omega)
        rw [hy]
        unfold rem
        rw [if_neg (by omega), if_neg (by omega), hs2, show (2 * rM s + 1) / 2 = rM s by omega]
        exact p2
theorem Pay.run (S : List Nat) (n : Nat) : ∀ (L : List (Int × Nat)) (o : Co) (M : Nat), Pay S o M → Ook o → o.made + L.length ≤ 16777216 → o.x.length = n → (∀ p ∈ L, p.2 = 1 ∧ placeOf p.1 n ∈ S ∧ placeOf p.1 n < n) → Pay S (runL o L) (M + 7 * L.length)
  | [], o, M, h, _, _, _, _ => h
  | p :: L, o, M, h, hok, hm, hn, hL => by
    obtain ⟨e1, e2, e3⟩ := hL p List.mem_cons_self
    have hm2 : o.made + (L.length + 1) ≤ 16777216 := hm
    have h1 := h.put hok p.1 (placeOf p.1 n) (by rw [hn]) (by rw [hn]; exact e3) e2
    rw [← e1] at h1
    have h2 := Pay.run S n L (putP o p.1 p.2) (M + 7) h1 (putP_ok hok p.1 p.2 (by omega)) (by show o.made + 1 + L.length ≤ _; omega) (by rw [putP_xlen, hn]) fun q hq => hL q (List.mem_cons_of_mem _ hq)
    have : M + 7 + 7 * L.length = M + 7 * (p :: L).length := by rw [List.length_cons]; omega
    rw [← this]
    exact h2
theorem pot_zero (x : List Nat) : ∀ S : List Nat, (∀ k ∈ S, x.getD k 0 = 0) → pot S x = 13 * S.length
  | [], _ => rfl
  | k :: S, h => by
    have e : pot (k :: S) x = rem (x.getD k 0) + pot S x := by unfold pot; simp only [List.map_cons, List.sum_cons]
    rw [e, pot_zero x S (fun k hk => h k (List.mem_cons_of_mem _ hk)), h k List.mem_cons_self, List.length_cons]
    show 13 + _ = _
    omega
theorem Pay.start {S : List Nat} {o : Co} {d : Nat} (h : ∀ k ∈ S, o.x.getD k 0 = 0) (hl : Lb o d) : Pay S o (32 * d + 28 + 1196 * S.length) := by
  refine ⟨fun k hk => Or.inl (h k hk), d, hl, ?_⟩
  rw [pot_zero _ S h]
  have := pA_le o.s.a
  omega

/-- One context, one bit, again and again. -/
theorem reps_cost (b : Nat) (hb : b < 2) (i : Int) (j : Nat) : ∀ (r : Nat) (o : Co) (d s : Nat), Ook o → o.made + r ≤ 16777216 → r ≤ 32000 → Lb o d → placeOf i o.x.length = j → j < o.x.length → o.x.getD j 0 = 2 * s + b → s ≤ 45 → Lb (runL o (List.replicate r (i, b))) (d + bd s o.s.a r) ∧ ∃ s', s' ≤ 45 ∧ (runL o (List.replicate r (i, b))).x.getD j 0 = 2 * s' + b
  | 0, o, d, s, _, _, _, hl, _, _, hy, hs => by
    rw [show runL o (List.replicate 0 (i, b)) = o from rfl]
    exact ⟨⟨hl.1, by have := hl.2; omega⟩, s, hs, hy⟩
  | r + 1, o, d, s, hok, hm, hr, hl, hj, hjl, hy, hs => by
    rw [show runL o (List.replicate (r + 1) (i, b)) = runL (putP o i b) (List.replicate r (i, b)) from rfl]
    have hxl : (putP o i b).x.length = o.x.length := putP_xlen o i b
    have hok2 := putP_ok hok i b (by omega)
    have hs2 : (2 * s + b) / 2 = s := by omega
    have hla : learnP true (2 * s + b) = 2 * rM s + b := by
      unfold learnP
      rw [if_pos rfl, hs2]; omega
    have hhalf := hok.ok.half
    rcases step_mps hok.ok hl i j b (2 * s + b) hj hjl hy (by omega) with ⟨k1, k2, k3, k4⟩ | ⟨k1, k2, k3, k4⟩
    · have ih := reps_cost b hb i j r (putP o i b) d s hok2 (by show o.made + 1 + r ≤ _; omega) (by omega) k1 (by rw [hxl]; exact hj) (by rw [hxl]; exact hjl) k2 hs
      refine ⟨⟨ih.1.1, ?_⟩, ih.2⟩
      have h2 := ih.1.2
      have : bd s (putP o i b).s.a r ≤ bd s o.s.a (r + 1) := by
        unfold bd
        by_cases h45 : s = 45
        · rw [if_pos h45, if_pos h45]
          rw [k3, hs2]
          subst h45
          have e1 : rQ 45 = 1 := rfl
          rw [hs2, e1] at k4
          rw [e1]
          by_cases h : 32768 + (r + 1) ≤ o.s.a
          · rw [if_pos h, if_pos (by omega)]; omega
          · rw [if_neg h]; split <;> omega
        · rw [if_neg h45, if_neg h45]; omega
      omega
    · rw [hla] at k2
      rw [hs2] at k3 k4
      by_cases h45 : s = 45
      · subst h45
        have e1 : rQ 45 = 1 := rfl
        have e2 : rM 45 = 45 := rfl
        rw [e1] at k3 k4
        rw [e2] at k2
        have ha : (putP o i b).s.a = 65534 := by rw [k4 (by omega)]; omega
        have ih := reps_cost b hb i j r (putP o i b) (d + 1) 45 hok2 (by show o.made + 1 + r ≤ _; omega) (by omega) k1 (by rw [hxl]; exact hj) (by rw [hxl]; exact hjl) k2 (by omega)
        refine ⟨⟨ih.1.1, ?_⟩, ih.2⟩
        have h2 := ih.1.2
        have b1 : bd 45 (putP o i b).s.a r = 0 := by unfold bd; rw [if_pos rfl, ha, if_pos (by omega)]
        have b2 : bd 45 o.s.a (r + 1) = 1 := by unfold bd; rw [if_pos rfl, if_neg (by omega)]
        omega
      · obtain ⟨p1, p2⟩ := psi_next s (by omega)
        have ih := reps_cost b hb i j r (putP o i b) (d + 1) (rM s) hok2 (by show o.made + 1 + r ≤ _; omega) (by omega) k1 (by rw [hxl]; exact hj) (by rw [hxl]; exact hjl) k2 p1
        refine ⟨⟨ih.1.1, ?_⟩, ih.2⟩
        have h2 := ih.1.2
        have b1 := bd_le (rM s) (putP o i b).s.a r
        have b2 : bd s o.s.a (r + 1) = psi s + 1 := by unfold bd; rw [if_neg h45]
        omega
theorem psi_le (s : Nat) (h : s ≤ 45) : psi s ≤ 31 := by
  unfold psi; repeat' split
  all_goals omega
theorem lb_up {o : Co} {d e : Nat} (h : Lb o d) (hd : d ≤ e) : Lb o e := ⟨h.1, by have := h.2; omega⟩
theorem replicate_cut (a b : Nat) (p : Int × Nat) : List.replicate (a + b) p = List.replicate a p ++ List.replicate b p := by
  rw [List.replicate_append_replicate]
/-- Up to 60000 of them. -/
theorem reps_long (b : Nat) (hb : b < 2) (i : Int) (j r : Nat) (o : Co) (d s : Nat) (hok : Ook o) (hm : o.made + r ≤ 16777216) (hr : r ≤ 60000) (hl : Lb o d) (hj : placeOf i o.x.length = j) (hjl : j < o.x.length) (hy : o.x.getD j 0 = 2 * s + b) (hs : s ≤ 45) : Lb (runL o (List.replicate r (i, b))) (d + 64) := by
  have e : r = min r 30000 + (r - min r 30000) := by omega
  rw [e, replicate_cut, runL_cat]
  obtain ⟨a1, s', a2, a3⟩ := reps_cost b hb i j (min r 30000) o d s hok (by omega) (by omega) hl hj hjl hy hs
  obtain ⟨q1, q2, q3⟩ := runL_ok hok (List.replicate (min r 30000) (i, b)) (by rw [List.length_replicate]; omega)
  rw [List.length_replicate] at q2
  obtain ⟨b1, _⟩ := reps_cost b hb i j (r - min r 30000) _ _ s' q1 (by rw [q2]; omega) (by omega) a1 (by rw [q3]; exact hj) (by rw [q3]; exact hjl) a3 a2
  have c1 := bd_le s o.s.a (min r 30000)
  have c2 := bd_le s' (runL o (List.replicate (min r 30000) (i, b))).s.a (r - min r 30000)
  have c3 := psi_le s hs
  have c4 := psi_le s' a2
  exact lb_up b1 (by omega)
/-- Behind nothing, a 0, or a 1. -/
theorem ones_long (i : Int) (j r : Nat) (o : Co) (d : Nat) (hok : Ook o) (hm : o.made + r ≤ 16777216) (hr : r ≤ 60000) (hl : Lb o d) (hj : placeOf i o.x.length = j) (hjl : j < o.x.length) (hy : o.x.getD j 0 = 0 ∨ o.x.getD j 0 = 2 ∨ o.x.getD j 0 = 3) : Lb (runL o (List.replicate r (i, 1))) (d + 68) := by
  have hxl : (putP o i 1).x.length = o.x.length := putP_xlen o i 1
  rcases hy with hy | hy | hy
  · match r, hm, hr with
    | 0, _, _ => exact lb_up hl (by omega)
    | r + 1, hm, hr =>
      have hok2 := putP_ok hok i 1 (by omega)
      obtain ⟨k1, k2⟩ := step_lps hok.ok hl i j 1 0 hj hjl hy (by omega) rq0
      rw [le0] at k2
      exact lb_up (reps_long 1 (by omega) i j r (putP o i 1) (d + 2) 1 hok2 (by show o.made + 1 + r ≤ _; omega) (by omega) k1 (by rw [hxl]; exact hj) (by rw [hxl]; exact hjl) k2 (by omega)) (by omega)
  · match r, hm, hr with
    | 0, _, _ => exact lb_up hl (by omega)
    | 1, hm, hr =>
      obtain ⟨k1, k2⟩ := step_lps hok.ok hl i j 1 2 hj hjl hy (by omega) rq2
      exact lb_up k1 (by omega)
    | r + 2, hm, hr =>
      have hok2 := putP_ok hok i 1 (by omega)
      obtain ⟨k1, k2⟩ := step_lps hok.ok hl i j 1 2 hj hjl hy (by omega) rq2
      rw [le2] at k2
      have hxl2 : (putP (putP o i 1) i 1).x.length = o.x.length := by rw [putP_xlen, hxl]
      have hok3 := putP_ok hok2 i 1 (by show o.made + 1 < _; omega)
      obtain ⟨m1, m2⟩ := step_lps hok2.ok k1 i j 1 12 (by rw [hxl]; exact hj) (by rw [hxl]; exact hjl) k2 (by omega) rq12
      rw [le12] at m2
      exact lb_up (reps_long 1 (by omega) i j r (putP (putP o i 1) i 1) (d + 2 + 2) 6 hok3 (by show o.made + 1 + 1 + r ≤ _; omega) (by omega) m1 (by rw [hxl2]; exact hj) (by rw [hxl2]; exact hjl) m2 (by omega)) (by omega)
  · exact lb_up (reps_long 1 (by omega) i j r o d 1 hok hm hr hl hj hjl hy (by omega)) (by omega)
/-- Bytes, once it is flushed. -/
theorem lb_bytes {o : Co} {d : Nat} (hok : Ook o) (hl : Lb o d) : 7 * (flushP o.s).length ≤ d + 14 := by
  have ht := hok.ok.cw.tlt
  have f := flushP_len o.s
  have := hl.2
  omega
end Go.Proofs.Ytkggdnkmaldmlab

/- Bitmaps of one colour: their contexts, their bytes. -/
namespace Go.Proofs.Ytkggdnkmaldmlab

def allC (c : Bool) : Pxs := fun _ _ => c
theorem ctxK_alike (q : Int → Int → Nat) (t : Nat) (x y x' y' : Int) (ht : t < 4) (h : ∀ i : Nat, i < 3 → ∀ d : Int, -4 ≤ d → d ≤ 3 → q (x + d) (y - 2 + i) = q (x' + d) (y' - 2 + i)) : ∀ k, k ≤ 3 → ctxK q t x y k = ctxK q t x' y' k
  | 0, _ => rfl
  | k + 1, hk => by
    rw [ctxK, ctxK, ctxK_alike q t x y x' y' ht h k (by omega)]
    refine gathN_congr _ _ fun j hj => ?_
    have hs := span_facts t k ht (by omega)
    have := h k (by omega) (fstS t k + j) (by omega) (by omega)
    rw [show x + fstS t k + (j : Int) = x + (fstS t k + j) by omega, show x' + fstS t k + (j : Int) = x' + (fstS t k + j) by omega]
    exact this
def xs8 (W : Nat) : List Nat := [0, 1, 2, 3, 4, W - 3, W - 2, W - 1]
def ctxS (t W : Nat) : List Nat := (xs8 W).map (fun x => cxJ W (allC true) t x 0) ++ ((xs8 W).map (fun x => cxJ W (allC true) t x 1) ++ (xs8 W).map (fun x => cxJ W (allC true) t x 2))
theorem ctxS_len (t W : Nat) : (ctxS t W).length = 24 := by
  unfold ctxS xs8; simp
theorem ctx_alike (t W x y x' y' : Nat) (ht : t < 4) (hx : x = x' ∨ (4 ≤ x ∧ x + 3 < W ∧ 4 ≤ x' ∧ x' + 3 < W)) (hy : y = y' ∨ (2 ≤ y ∧ 2 ≤ y')) : cxJ W (allC true) t x y = cxJ W (allC true) t x' y' := by
  unfold cxJ ctx
  refine ctxK_alike _ t _ _ _ _ ht (fun i hi d h1 h2 => ?_) 3 (by omega)
  unfold pixJ allC
  split <;> split <;> first | rfl | omega
theorem ctx_in (t W x y : Nat) (ht : t < 4) (hx : x < W) : cxJ W (allC true) t x y ∈ ctxS t W := by
  have key : ∃ x' ∈ xs8 W, x = x' ∨ (4 ≤ x ∧ x + 3 < W ∧ 4 ≤ x' ∧ x' + 3 < W) := by
    by_cases h4 : x ≤ 4
    · refine ⟨x, ?_, Or.inl rfl⟩
      have : x = 0 ∨ x = 1 ∨ x = 2 ∨ x = 3 ∨ x = 4 := by omega
      unfold xs8; rcases this with h | h | h | h | h <;> simp [h]
    · by_cases h3 : x + 3 < W
      · exact ⟨4, by simp [xs8], Or.inr (by omega)⟩
      · refine ⟨x, ?_, Or.inl rfl⟩
        have : x = W - 3 ∨ x = W - 2 ∨ x = W - 1 := by omega
        unfold xs8; rcases this with h | h | h <;> simp [h]
  obtain ⟨x', hm, hx'⟩ := key
  unfold ctxS
  by_cases h0 : y = 0
  · exact List.mem_append_left _ (List.mem_map.2 ⟨x', hm, (ctx_alike t W x y x' 0 ht hx' (Or.inl h0)).symm⟩)
  · refine List.mem_append_right _ ?_
    by_cases h1 : y = 1
    · exact List.mem_append_left _ (List.mem_map.2 ⟨x', hm, (ctx_alike t W x y x' 1 ht hx' (Or.inl h1)).symm⟩)
    · exact List.mem_append_right _ (List.mem_map.2 ⟨x', hm, (ctx_alike t W x y x' 2 ht hx' (Or.inr (by omega))).symm⟩)
theorem ctxS_lt (t W : Nat) : ∀ k ∈ ctxS t W, k < sizeT t := by
  intro k hk
  unfold ctxS at hk
  simp only [List.mem_append, List.mem_map] at hk
  rcases hk with ⟨x, _, rfl⟩ | ⟨x, _, rfl⟩ | ⟨x, _, rfl⟩ <;> exact cxJ_lt _ _ _ _ _
theorem ctx_white (t W x y : Nat) (ht : t < 4) : cxJ W (allC false) t x y = 0 := by
  unfold cxJ
  refine ctx_zero _ t _ _ ht fun i hi d h1 h2 => ?_
  unfold pixJ allC
  split <;> rfl

/-- The decisions look at the pixels alone. -/
theorem pixD_congr (base t W y : Nat) (P Q : Pxs) (ht : t < 4) (h : ∀ a b, a < W → b ≤ y → P a b = Q a b) : ∀ n, n ≤ W → pixD base t W P y n = pixD base t W Q y n
  | 0, _ => rfl
  | n + 1, hn => by
    rw [pixD, pixD, pixD_congr base t W y P Q ht h n (by omega), cxJ_congr W P Q t n y ht (fun a b ha hb => h a b ha (by omega)), h n y (by omega) (Nat.le_refl _)]
theorem sameR_congr (W y : Nat) (P Q : Pxs) (h : ∀ a b, a < W → b ≤ y → P a b = Q a b) : sameR W P y = sameR W Q y := by
  unfold sameR
  refine decide_eq_decide.2 ?_
  have hu : ∀ x, x < W → upP P y x = upP Q y x := fun x hx => by
    unfold upP
    split
    · rfl
    · exact h x (y - 1) hx (by omega)
  constructor
  · intro g x hx; rw [← hu x hx, ← h x y hx (Nat.le_refl _)]; exact g x hx
  · intro g x hx; rw [hu x hx, h x y hx (Nat.le_refl _)]; exact g x hx
theorem rowsD_congr (t W : Nat) (skip : Bool) (P Q : Pxs) (ht : t < 4) : ∀ n, (∀ a b, a < W → b < n → P a b = Q a b) → rowsD 0 t W skip P n = rowsD 0 t W skip Q n
  | 0, _ => rfl
  | n + 1, h => by
    rw [rowsD, rowsD, rowsD_congr t W skip P Q ht n (fun a b ha hb => h a b ha (by omega))]
    congr 1
    unfold rowD
    rw [sameR_congr W n P Q (fun a b ha hb => h a b ha (by omega)), pixD_congr 0 t W n P Q ht (fun a b ha hb => h a b ha (by omega)) W (Nat.le_refl _)]
theorem pixD_mem (t W : Nat) (P : Pxs) (y : Nat) : ∀ n, ∀ p ∈ pixD 0 t W P y n, ∃ x, x < n ∧ p = (((0 + cxJ W P t x y : Nat) : Int), (P x y).toNat)
  | 0, p, h => by simp [pixD] at h
  | n + 1, p, h => by
    simp only [pixD, List.mem_append, List.mem_singleton] at h
    rcases h with h | rfl
    · obtain ⟨x, hx, e⟩ := pixD_mem t W P y n p h
      exact ⟨x, by omega, e⟩
    · exact ⟨n, by omega, rfl⟩
theorem rows_mem (t W : Nat) (P : Pxs) : ∀ n, ∀ p ∈ rowsD 0 t W false P n, ∃ x y, x < W ∧ y < n ∧ p = (((0 + cxJ W P t x y : Nat) : Int), (P x y).toNat)
  | 0, p, h => by simp [rowsD] at h
  | n + 1, p, h => by
    simp only [rowsD, List.mem_append] at h
    rcases h with h | h
    · obtain ⟨x, y, hx, hy, e⟩ := rows_mem t W P n p h
      exact ⟨x, y, hx, by omega, e⟩
    · simp only [rowD, Bool.false_eq_true, if_false] at h
      obtain ⟨x, hx, e⟩ := pixD_mem t W P n W p h
      exact ⟨x, n, hx, by omega, e⟩
theorem rows_len (t W : Nat) (P : Pxs) : ∀ n, (rowsD 0 t W false P n).length = n * W
  | 0 => by simp [rowsD]
  | n + 1 => by
    rw [rowsD, List.length_append, rows_len t W P n]
    simp only [rowD, Bool.false_eq_true, if_false]
    rw [pixD_length, Nat.add_mul, Nat.one_mul]

theorem new_zero (n k : Nat) : (newP n).x.getD k 0 = 0 := by
  show (List.replicate n 0).getD k 0 = 0
  rw [List.getD_eq_getElem?_getD, List.getElem?_replicate]; split <;> rfl
theorem new_len (n : Nat) : (newP n).x.length = n := by simp [newP]
theorem new_lb (n : Nat) : Lb (newP n) 0 := ⟨by show 1 ≤ 12; decide, by show 12 + 7 * 0 ≤ 0 + 12; decide⟩
theorem same_white (W y : Nat) : sameR W (allC false) y = true := by
  unfold sameR
  refine decide_eq_true fun x _ => ?_
  unfold upP allC
  split <;> rfl
theorem same_black (W y : Nat) : sameR W (allC true) (y + 1) = true := by
  unfold sameR
  refine decide_eq_true fun x _ => ?_
  unfold upP allC
  rw [if_neg (by omega)]
theorem first_black (W : Nat) (h : 1 ≤ W) : sameR W (allC true) 0 = false := by
  unfold sameR
  refine decide_eq_false fun g => ?_
  have := g 0 (by omega)
  unfold upP allC at this
  rw [if_pos rfl] at this
  cases this
theorem skip_white (t W : Nat) : ∀ n, rowsD 0 t W true (allC false) n = List.replicate n (((0 + sizeT t : Nat) : Int), 1)
  | 0 => rfl
  | n + 1 => by
    rw [rowsD, skip_white t W n]
    unfold rowD
    rw [same_white]
    simp only [if_true]
    rw [List.replicate_succ']
    rfl
theorem skip_black (t W : Nat) : ∀ k, rowsD 0 t W true (allC true) (1 + k) = rowD 0 t W true (allC true) 0 ++ List.replicate k (((0 + sizeT t : Nat) : Int), 1)
  | 0 => by show [] ++ _ = _; simp
  | k + 1 => by
    rw [show 1 + (k + 1) = (1 + k) + 1 by omega, rowsD, skip_black t W k, show 1 + k = k + 1 by omega]
    unfold rowD
    rw [same_black]
    simp only [if_true]
    rw [List.replicate_succ', List.append_assoc]
    rfl

theorem small_all (t W H : Nat) (skip c : Bool) (ht : t < 4) (hW : 1 ≤ W) (hH : 1 ≤ H) (hm : H * W ≤ 40000) : (codedB (sizeT t + 1) (rowsD 0 t W skip (allC c) H)).length ≤ 160 + H * W / 32 := by
  have hZ := sizeT_le t ht
  have hW2 : W ≤ H * W := Nat.le_mul_of_pos_left W hH
  have hH2 : H ≤ H * W := Nat.le_mul_of_pos_right H hW
  have hnew := newP_ok (n := sizeT t + 1) (by omega) (by omega)
  have hpl : ∀ k, k < sizeT t + 1 → placeOf ((0 + k : Nat) : Int) (sizeT t + 1) = k := fun k hk => by
    rw [Nat.zero_add]; exact placeOf_nat _ _ hk
  unfold codedB
  cases skip
  · cases c
    · have e : rowsD 0 t W false (allC false) H = List.replicate (H * W) ((0 : Int), 0) := by
        rw [← rows_len t W (allC false) H]
        refine List.eq_replicate_of_mem fun p hp => ?_
        obtain ⟨x, y, _, _, rfl⟩ := rows_mem t W _ H p hp
        rw [ctx_white t W x y ht]; rfl
      rw [e]
      have hl := reps_long 0 (by omega) 0 0 (H * W) (newP (sizeT t + 1)) 0 0 hnew (by show 0 + _ ≤ _; omega) (by omega) (new_lb _) (by rw [new_len]; exact placeOf_nat 0 _ (by omega)) (by rw [new_len]; omega) (new_zero _ _) (by omega)
      have hb := lb_bytes (runL_ok hnew (List.replicate (H * W) ((0 : Int), 0)) (by rw [List.length_replicate]; show 0 + _ ≤ _; omega)).1 hl
      omega
    · have hp := Pay.run (ctxS t W) (sizeT t + 1) (rowsD 0 t W false (allC true) H) (newP (sizeT t + 1)) _ (Pay.start (fun k _ => new_zero _ k) (new_lb _)) hnew (by rw [rows_len]; show 0 + _ ≤ _; omega) (new_len _) fun p hp => by
        obtain ⟨x, y, hx, _, rfl⟩ := rows_mem t W _ H p hp
        have hc := ctx_in t W x y ht hx
        have hlt := ctxS_lt t W _ hc
        refine ⟨rfl, ?_, ?_⟩
        · rw [hpl _ (by omega)]; exact hc
        · rw [hpl _ (by omega)]; omega
      rw [ctxS_len, rows_len] at hp
      obtain ⟨d, hl, hM⟩ := hp.paid
      have hb := lb_bytes (runL_ok hnew (rowsD 0 t W false (allC true) H) (by rw [rows_len]; show 0 + _ ≤ _; omega)).1 hl
      omega
  · cases c
    · rw [skip_white]
      have hl := ones_long ((0 + sizeT t : Nat) : Int) (sizeT t) H (newP (sizeT t + 1)) 0 hnew (by show 0 + _ ≤ _; omega) (by omega) (new_lb _) (by rw [new_len]; exact hpl _ (by omega)) (by rw [new_len]; omega) (Or.inl (new_zero _ _))
      have hb := lb_bytes (runL_ok hnew (List.replicate H (((0 + sizeT t : Nat) : Int), 1)) (by rw [List.length_replicate]; show 0 + _ ≤ _; omega)).1 hl
      omega
    · obtain ⟨k, rfl⟩ : ∃ k, H = 1 + k := ⟨H - 1, by omega⟩
      have h3 := first_row t W (allC true) ht
      rw [skip_black, runL_cat]
      have er : rowD 0 t W true (allC true) 0 = (((0 + sizeT t : Nat) : Int), 0) :: pixD 0 t W (allC true) 0 W := by
        unfold rowD; rw [first_black W hW]; rfl
      have hlen : (rowD 0 t W true (allC true) 0).length = W + 1 := by rw [er, List.length_cons, pixD_length]
      obtain ⟨q1, q2, q3⟩ := runL_ok hnew (rowD 0 t W true (allC true) 0) (by rw [hlen]; show 0 + _ ≤ _; omega)
      have q2' : (runL (newP (sizeT t + 1)) (rowD 0 t W true (allC true) 0)).made = W + 1 := by rw [q2, hlen]; show 0 + _ = _; omega
      have key : ∃ d, Lb (runL (newP (sizeT t + 1)) (rowD 0 t W true (allC true) 0)) d ∧ 32 * d ≤ 32 * 1 + 28 + 1196 * 24 + 7 * W := by
        have h1 : Lb (putP (newP (sizeT t + 1)) ((0 + sizeT t : Nat) : Int) 0) 1 := by
          rcases step_mps hnew.ok (new_lb _) ((0 + sizeT t : Nat) : Int) (sizeT t) 0 0 (by rw [new_len]; exact hpl _ (by omega)) (by rw [new_len]; omega) (new_zero _ _) rfl with ⟨k1, _⟩ | ⟨k1, _⟩
          · exact lb_up k1 (by omega)
          · exact k1
        have hz : ∀ k ∈ ctxS t W, (putP (newP (sizeT t + 1)) ((0 + sizeT t : Nat) : Int) 0).x.getD k 0 = 0 := fun k hk => by
          have := ctxS_lt t W k hk
          rw [put_other _ _ _ _ (by rw [new_len, hpl _ (by omega)]; omega), new_zero]
        have hp := Pay.run (ctxS t W) (sizeT t + 1) (pixD 0 t W (allC true) 0 W) _ _ (Pay.start hz h1) (putP_ok hnew _ 0 (by show 0 < _; omega)) (by rw [pixD_length]; show 0 + 1 + _ ≤ _; omega) (by rw [putP_xlen, new_len]) fun p hp => by
          obtain ⟨x, hx, rfl⟩ := pixD_mem t W _ 0 W p hp
          have hc := ctx_in t W x 0 ht hx
          have hlt := ctxS_lt t W _ hc
          refine ⟨rfl, ?_, ?_⟩
          · rw [hpl _ (by omega)]; exact hc
          · rw [hpl _ (by omega)]; omega
        rw [ctxS_len, pixD_length] at hp
        obtain ⟨d, hl, hM⟩ := hp.paid
        refine ⟨d, ?_, by omega⟩
        rw [er]
        exact hl
      obtain ⟨d, hl, hd⟩ := key
      have hl2 := ones_long ((0 + sizeT t : Nat) : Int) (sizeT t) k _ d q1 (by rw [q2']; omega) (by omega) hl (by rw [q3, new_len]; exact hpl _ (by omega)) (by rw [q3, new_len]; omega) h3
      have hb := lb_bytes (runL_ok q1 (List.replicate k (((0 + sizeT t : Nat) : Int), 1)) (by rw [List.length_replicate, q2']; omega)).1 hl2
      omega
theorem small_len (t W H : Nat) (skip c : Bool) (P : Pxs) (ht : t < 4) (hW : 1 ≤ W) (hH : 1 ≤ H) (hm : H * W ≤ 40000) (hP : ∀ a b, a < W → b < H → P a b = c) : (codedB (sizeT t + 1) (rowsD 0 t W skip P H)).length ≤ 160 + H * W / 32 := by
  rw [rowsD_congr t W skip P (allC c) ht H hP]
  exact small_all t W H skip c ht hW hH hm
end Go.Proofs.Ytkggdnkmaldmlab
