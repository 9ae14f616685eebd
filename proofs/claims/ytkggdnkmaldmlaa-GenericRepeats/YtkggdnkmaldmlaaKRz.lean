/- Decisions that say 'as above': how few bytes they cost. -/
import Derived.Test.YtkggdnkmaldmlaaKShortM
import Derived.Test.YtkggdnkmaldmlaaK29
namespace Go.Proofs.Ytkggdnkmaldmlaa

/-- Bytes against doublings. -/
def Lb (o : Co) (d : Nat) : Prop := 1 ≤ o.s.t ∧ 12 + 7 * o.s.b.length ≤ d + o.s.t
theorem dbl_one {v : Nat} (h1 : 16384 ≤ v) : dblA 16 v = (2 * v, 1) := by
  unfold dblA; rw [if_neg (by omega)]
theorem dbl_two {v : Nat} (h1 : 8192 ≤ v) : (dblA 16 v).2 ≤ 2 := by
  by_cases h : 16384 ≤ v
  · rw [dbl_one h]; exact Nat.le_succ 1
  · unfold dblA
    rw [if_pos (by omega)]
    simp only []
    unfold dblA
    rw [if_neg (by omega)]
    exact Nat.le_refl 2
theorem rQ_all (s : Nat) : rQ s ≤ 22017 := by
  by_cases h : s < 47
  · exact (rQ_bd s h).2
  · unfold rQ
    rw [List.getD_eq_getElem?_getD, List.getElem?_eq_none (by show qs.length ≤ s; have : qs.length = 47 := rfl; omega)]; simp
theorem set_get (x : List Nat) (j v : Nat) (hj : j < x.length) : (x.set j v).getD j 0 = v := by
  rw [List.getD_eq_getElem?_getD, List.getElem?_set_self hj]; rfl

/-- The likelier bit. -/
theorem step_mps {o : Co} (hok : Cok o.s) {d : Nat} (hl : Lb o d) (i : Int) (j bit y : Nat) (hj : placeOf i o.x.length = j) (hjl : j < o.x.length) (hy : o.x.getD j 0 = y) (hb : bit = y % 2) :
    (Lb (putP o i bit) d ∧ (putP o i bit).x.getD j 0 = y ∧ (putP o i bit).s.a = o.s.a - rQ (y / 2) ∧ 32768 ≤ o.s.a - rQ (y / 2)) ∨
    (Lb (putP o i bit) (d + 1) ∧ (putP o i bit).x.getD j 0 = learnP true y ∧ o.s.a - rQ (y / 2) < 32768 ∧ (rQ (y / 2) ≤ o.s.a - rQ (y / 2) → (putP o i bit).s.a = 2 * (o.s.a - rQ (y / 2)))) := by
  have hI : Is o ⟨o.s.a, o.x.map (· / 2), d⟩ := ⟨rfl, rfl, hl.1, hl.2⟩
  have hp := (hI.put i j bit hj).1 (by rw [hy]; exact hb)
  have hs := hI.state j
  rw [hy] at hs
  have hh := hok.half
  have hq := rQ_all (y / 2)
  unfold mps at hp
  rw [hs] at hp
  simp only [] at hp
  have hx : (putP o i bit).x.getD j 0 = codeX o.s y bit := by
    show (o.x.set (placeOf i o.x.length) (codeX o.s (o.x.getD (placeOf i o.x.length) 0) bit)).getD j 0 = _
    rw [hj, hy]; exact set_get _ _ _ hjl
  by_cases h1 : 32768 ≤ o.s.a - rQ (y / 2)
  · rw [if_pos h1] at hp
    left
    refine ⟨⟨hp.tpos, hp.len⟩, ?_, hp.a, h1⟩
    rw [hx, codeX, if_pos ⟨hb, h1⟩]
  · rw [if_neg h1] at hp
    right
    have hxx : (putP o i bit).x.getD j 0 = learnP true y := by rw [hx, codeX, if_neg (fun h => h1 h.2), decide_eq_true hb]
    by_cases h2 : o.s.a - rQ (y / 2) < rQ (y / 2)
    · rw [if_pos h2, dbl_one (by omega)] at hp
      exact ⟨⟨hp.tpos, hp.len⟩, hxx, by omega, fun h => by omega⟩
    · rw [if_neg h2, dbl_one (by omega)] at hp
      exact ⟨⟨hp.tpos, hp.len⟩, hxx, by omega, fun _ => hp.a⟩
/-- The other bit, in a state whose Q is great. -/
theorem step_lps {o : Co} (hok : Cok o.s) {d : Nat} (hl : Lb o d) (i : Int) (j bit y : Nat) (hj : placeOf i o.x.length = j) (hjl : j < o.x.length) (hy : o.x.getD j 0 = y) (hb : ¬ bit = y % 2) (hq8 : 8192 ≤ rQ (y / 2)) :
    Lb (putP o i bit) (d + 2) ∧ (putP o i bit).x.getD j 0 = learnP false y := by
  have hI : Is o ⟨o.s.a, o.x.map (· / 2), d⟩ := ⟨rfl, rfl, hl.1, hl.2⟩
  have hp := (hI.put i j bit hj).2 (by rw [hy]; exact hb)
  have hs := hI.state j
  rw [hy] at hs
  have hh := hok.half
  have hq := rQ_all (y / 2)
  unfold lps at hp
  rw [hs] at hp
  simp only [] at hp
  have hx : (putP o i bit).x.getD j 0 = learnP false y := by
    show (o.x.set (placeOf i o.x.length) (codeX o.s (o.x.getD (placeOf i o.x.length) 0) bit)).getD j 0 = _
    rw [hj, hy, set_get _ _ _ hjl, codeX, if_neg (fun h => hb h.1), decide_eq_false hb]
  refine ⟨⟨hp.tpos, ?_⟩, hx⟩
  have hlen := hp.len
  by_cases h2 : o.s.a - rQ (y / 2) < rQ (y / 2)
  · rw [if_pos h2] at hlen
    have := dbl_two (v := o.s.a - rQ (y / 2)) (by omega)
    simp only [] at hlen
    omega
  · rw [if_neg h2] at hlen
    have := dbl_two hq8
    simp only [] at hlen
    omega

/-- How many states lie ahead of the last one. -/
def psi (s : Nat) : Nat := if s ≤ 5 then 13 - s else if s ≤ 13 then 30 - s else 45 - s
theorem psi_next : ∀ s, s < 45 → rM s ≤ 45 ∧ psi (rM s) + 1 ≤ psi s := by decide
def ones (o : Co) (i : Int) : Nat → Co
  | 0 => o
  | n + 1 => ones (putP o i 1) i n
theorem ones_run (o : Co) (i : Int) : ∀ n, ones o i n = runL o (List.replicate n (i, 1))
  | 0 => rfl
  | n + 1 => by rw [ones, ones_run (putP o i 1) i n]; rfl
def bd (s a r : Nat) : Nat := if s = 45 then (if 32768 + r ≤ a then 0 else 1) else psi s + 1
theorem bd_le (s a r : Nat) : bd s a r ≤ psi s + 1 := by
  unfold bd
  split
  · split <;> omega
  · omega
theorem ones_cost (i : Int) (j : Nat) : ∀ (r : Nat) (o : Co) (d s : Nat), Ook o → o.made + r ≤ 16777216 → r ≤ 100 → Lb o d → placeOf i o.x.length = j → j < o.x.length → o.x.getD j 0 = 2 * s + 1 → s ≤ 45 → Lb (ones o i r) (d + bd s o.s.a r)
  | 0, o, d, s, _, _, _, hl, _, _, _, _ => by
    rw [show ones o i 0 = o from rfl]
    exact ⟨hl.1, by have := hl.2; omega⟩
  | r + 1, o, d, s, hok, hm, hr, hl, hj, hjl, hy, hs => by
    rw [ones]
    have hxl : (putP o i 1).x.length = o.x.length := putP_xlen o i 1
    have hok2 := putP_ok hok i 1 (by omega)
    have hs2 : (2 * s + 1) / 2 = s := by omega
    have hla : learnP true (2 * s + 1) = 2 * rM s + 1 := by
      unfold learnP
      rw [if_pos rfl, hs2]; omega
    have hhalf := hok.ok.half
    rcases step_mps hok.ok hl i j 1 (2 * s + 1) hj hjl hy (by omega) with ⟨k1, k2, k3, k4⟩ | ⟨k1, k2, k3, k4⟩
    · have ih := ones_cost i j r (putP o i 1) d s hok2 (by show o.made + 1 + r ≤ _; omega) (by omega) k1 (by rw [hxl]; exact hj) (by rw [hxl]; exact hjl) k2 hs
      refine ⟨ih.1, ?_⟩
      have h2 := ih.2
      have : bd s (putP o i 1).s.a r ≤ bd s o.s.a (r + 1) := by
        unfold bd
        by_cases h45 : s = 45
        · rw [if_pos h45, if_pos h45]
          rw [k3, hs2]
          subst h45
          have e1 : rQ 45 = 1 := rfl
          rw [e1] at k4 ⊢
          by_cases h : 32768 + (r + 1) ≤ o.s.a
          · rw [if_pos h, if_pos (by omega)]; omega
          · rw [if_neg h]; split <;> omega
        · rw [if_neg h45, if_neg h45]; omega
      omega
    · rw [hla] at k2
      rw [hs2] at k3 k4
      by_cases h45 : s = 45
      · subst h45
        have e1 : rQ 45 = 1 := rfl
        have e2 : rM 45 = 45 := rfl
        rw [e1] at k3 k4
        rw [e2] at k2
        have ha : (putP o i 1).s.a = 65534 := by rw [k4 (by omega)]; omega
        have ih := ones_cost i j r (putP o i 1) (d + 1) 45 hok2 (by show o.made + 1 + r ≤ _; omega) (by omega) k1 (by rw [hxl]; exact hj) (by rw [hxl]; exact hjl) k2 (by omega)
        refine ⟨ih.1, ?_⟩
        have h2 := ih.2
        have b1 : bd 45 (putP o i 1).s.a r = 0 := by unfold bd; rw [if_pos rfl, ha, if_pos (by omega)]
        have b2 : bd 45 o.s.a (r + 1) = 1 := by unfold bd; rw [if_pos rfl, if_neg (by omega)]
        omega
      · obtain ⟨p1, p2⟩ := psi_next s (by omega)
        have ih := ones_cost i j r (putP o i 1) (d + 1) (rM s) hok2 (by show o.made + 1 + r ≤ _; omega) (by omega) k1 (by rw [hxl]; exact hj) (by rw [hxl]; exact hjl) k2 p1
        refine ⟨ih.1, ?_⟩
        have h2 := ih.2
        have b1 := bd_le (rM s) (putP o i 1).s.a r
        have b2 : bd s o.s.a (r + 1) = psi s + 1 := by unfold bd; rw [if_neg h45]
        omega

theorem ones_succ (o : Co) (i : Int) (n m : Nat) (h : n = m + 1) : ones o i n = ones (putP o i 1) i m := by subst h; rfl
theorem rq0 : 8192 ≤ rQ (0 / 2) := by decide
theorem rq2 : 8192 ≤ rQ (2 / 2) := by decide
theorem rq12 : 8192 ≤ rQ (12 / 2) := by decide
theorem le0 : learnP false 0 = 2 * 1 + 1 := by decide
theorem le2 : learnP false 2 = 12 := by decide
theorem le12 : learnP false 12 = 2 * 6 + 1 := by decide
/-- Forty-nine of them behind one other decision. -/
theorem ones_few (i : Int) (j : Nat) (o : Co) (d : Nat) (hok : Ook o) (hm : o.made + 49 ≤ 16777216) (hl : Lb o d) (hj : placeOf i o.x.length = j) (hjl : j < o.x.length) (hy : o.x.getD j 0 = 0 ∨ o.x.getD j 0 = 2 ∨ o.x.getD j 0 = 3) : Lb (ones o i 49) (d + 29) := by
  have up : ∀ (o' : Co) (d1 d2 : Nat), Lb o' d1 → d1 ≤ d2 → Lb o' d2 := fun o' d1 d2 h hd => ⟨h.1, by have := h.2; omega⟩
  have hxl : (putP o i 1).x.length = o.x.length := putP_xlen o i 1
  have hok2 := putP_ok hok i 1 (by omega)
  rcases hy with hy | hy | hy
  · obtain ⟨k1, k2⟩ := step_lps hok.ok hl i j 1 0 hj hjl hy (by omega) rq0
    rw [le0] at k2
    rw [ones_succ o i 49 48 rfl]
    have := ones_cost i j 48 (putP o i 1) (d + 2) 1 hok2 (by show o.made + 1 + 48 ≤ _; omega) (by omega) k1 (by rw [hxl]; exact hj) (by rw [hxl]; exact hjl) k2 (by omega)
    have hb := bd_le 1 (putP o i 1).s.a 48
    have e : psi 1 = 12 := rfl
    exact up _ _ _ this (by omega)
  · obtain ⟨k1, k2⟩ := step_lps hok.ok hl i j 1 2 hj hjl hy (by omega) rq2
    rw [le2] at k2
    rw [ones_succ o i 49 48 rfl, ones_succ (putP o i 1) i 48 47 rfl]
    have hxl2 : (putP (putP o i 1) i 1).x.length = o.x.length := by rw [putP_xlen, hxl]
    have hok3 := putP_ok hok2 i 1 (by show o.made + 1 < _; omega)
    obtain ⟨m1, m2⟩ := step_lps hok2.ok k1 i j 1 12 (by rw [hxl]; exact hj) (by rw [hxl]; exact hjl) k2 (by omega) rq12
    rw [le12] at m2
    have := ones_cost i j 47 (putP (putP o i 1) i 1) (d + 2 + 2) 6 hok3 (by show o.made + 1 + 1 + 47 ≤ _; omega) (by omega) m1 (by rw [hxl2]; exact hj) (by rw [hxl2]; exact hjl) m2 (by omega)
    have hb := bd_le 6 (putP (putP o i 1) i 1).s.a 47
    have e : psi 6 = 24 := rfl
    exact up _ _ _ this (by omega)
  · have := ones_cost i j 49 o d 1 hok (by omega) (by omega) hl hj hjl hy (by omega)
    have hb := bd_le 1 o.s.a 49
    have e : psi 1 = 12 := rfl
    exact up _ _ _ this (by omega)

theorem flushP_len (s : Cs) : s.b.length + 1 ≤ (flushP s).length ∧ (flushP s).length ≤ s.b.length + 2 := by
  have h2 := flush_two s
  unfold flushP
  split
  · rw [List.length_drop]; omega
  · rw [List.length_drop, List.length_append]; simp; omega
theorem ones_bytes (i : Int) (j : Nat) (o : Co) (hok : Ook o) (hm : o.made + 49 ≤ 16777216) (hj : placeOf i o.x.length = j) (hjl : j < o.x.length) (hy : o.x.getD j 0 = 0 ∨ o.x.getD j 0 = 2 ∨ o.x.getD j 0 = 3) : (flushP (ones o i 49).s).length ≤ (flushP o.s).length + 8 := by
  have ht := hok.ok.cw.tlt
  have htp := hok.ok.cw.tpos
  have hl : Lb o (12 + 7 * o.s.b.length - o.s.t) := ⟨htp, by omega⟩
  have h1 := ones_few i j o _ hok hm hl hj hjl hy
  have h2 : (ones o i 49).s.t ≤ 12 := by
    rw [ones_run]
    exact (runL_ok hok _ (by rw [List.length_replicate]; omega)).1.ok.cw.tlt
  have f1 := flushP_len o.s
  have f2 := flushP_len (ones o i 49).s
  have := h1.2
  omega

/-- Another context is left alone. -/
theorem put_other (o : Co) (i : Int) (b j : Nat) (h : placeOf i o.x.length ≠ j) : (putP o i b).x.getD j 0 = o.x.getD j 0 := by
  show (o.x.set _ _).getD j 0 = _
  rw [List.getD_eq_getElem?_getD, List.getElem?_set_ne h, List.getD_eq_getElem?_getD]
theorem run_other (j n : Nat) : ∀ (L : List (Int × Nat)) (o : Co), o.x.length = n → (∀ p ∈ L, placeOf p.1 n ≠ j) → (runL o L).x.getD j 0 = o.x.getD j 0
  | [], o, _, _ => rfl
  | p :: L, o, hn, h => by
    show (runL (putP o p.1 p.2) L).x.getD j 0 = _
    rw [run_other j n L (putP o p.1 p.2) (by rw [putP_xlen, hn]) (fun q hq => h q (List.mem_cons_of_mem _ hq)), put_other]
    rw [hn]; exact h p (List.mem_cons_self ..)
theorem pixD_ctx (base t W : Nat) (P : Pxs) (y : Nat) : ∀ n, ∀ p ∈ pixD base t W P y n, ∃ c, c < sizeT t ∧ p.1 = ((base + c : Nat) : Int)
  | 0, p, h => by simp [pixD] at h
  | n + 1, p, h => by
    simp only [pixD, List.mem_append, List.mem_singleton] at h
    rcases h with h | rfl
    · exact pixD_ctx base t W P y n p h
    · exact ⟨cxJ W P t n y, cxJ_lt W P t n y, rfl⟩
/-- The skip's context behind a first row. -/
theorem first_row (t W : Nat) (P : Pxs) (ht : t < 4) : (runL (newP (sizeT t + 1)) (rowD 0 t W true P 0)).x.getD (sizeT t) 0 = 0 ∨ (runL (newP (sizeT t + 1)) (rowD 0 t W true P 0)).x.getD (sizeT t) 0 = 2 ∨ (runL (newP (sizeT t + 1)) (rowD 0 t W true P 0)).x.getD (sizeT t) 0 = 3 := by
  have hZ := sizeT_le t ht
  have hp : placeOf ((0 + sizeT t : Nat) : Int) (newP (sizeT t + 1)).x.length = sizeT t := by
    simp only [newP, List.length_replicate, Nat.zero_add]
    exact placeOf_nat _ _ (by omega)
  have h0 : (newP (sizeT t + 1)).x.getD (sizeT t) 0 = 0 := by
    simp [newP, List.getD_eq_getElem?_getD]
  have hl : sizeT t < (newP (sizeT t + 1)).x.length := by simp [newP]
  have hx : ∀ b, (putP (newP (sizeT t + 1)) ((0 + sizeT t : Nat) : Int) b).x.getD (sizeT t) 0 = codeX (newP (sizeT t + 1)).s 0 b := fun b => by
    show (List.set _ (placeOf _ _) (codeX _ (List.getD _ (placeOf _ _) 0) b)).getD (sizeT t) 0 = _
    rw [hp, h0]; exact set_get _ _ _ hl
  unfold rowD
  simp only [if_true]
  have ho : ∀ b (L : List (Int × Nat)), (∀ p ∈ L, ∃ c, c < sizeT t ∧ p.1 = ((0 + c : Nat) : Int)) → (runL (newP (sizeT t + 1)) ((((0 + sizeT t : Nat) : Int), b) :: L)).x.getD (sizeT t) 0 = codeX (newP (sizeT t + 1)).s 0 b := fun b L hL => by
    show (runL (putP (newP (sizeT t + 1)) ((0 + sizeT t : Nat) : Int) b) L).x.getD (sizeT t) 0 = _
    rw [run_other (sizeT t) (sizeT t + 1) L _ (by rw [putP_xlen]; simp [newP]) (fun p hp2 => ?_), hx]
    obtain ⟨c, hc, e⟩ := hL p hp2
    rw [e, placeOf_nat _ _ (by omega)]
    omega
  have hc0 : codeX (newP (sizeT t + 1)).s 0 0 = 0 ∨ codeX (newP (sizeT t + 1)).s 0 0 = 2 := by
    unfold codeX
    split
    · left; rfl
    · right; decide
  have hc1 : codeX (newP (sizeT t + 1)).s 0 1 = 3 := by
    unfold codeX
    rw [if_neg (fun h => by have := h.1; omega)]
    rfl
  cases hs : sameR W P 0
  · simp only [Bool.toNat_false, Bool.false_eq_true, if_false]
    rw [ho 0 _ (fun p hp2 => by obtain ⟨c, a, b⟩ := pixD_ctx 0 t W P 0 W p hp2; exact ⟨c, a, b⟩)]
    rcases hc0 with h | h
    · exact Or.inl h
    · exact Or.inr (Or.inl h)
  · simp only [Bool.toNat_true, if_true]
    rw [ho 1 [] (fun p hp2 => by simp at hp2), hc1]
    exact Or.inr (Or.inr rfl)
/-- Rows that are all the first one. -/
theorem rowsD_same (t W : Nat) (P Q : Pxs) (ht : t < 4) (h0 : ∀ x, x < W → P x 0 = Q x 0) (h : ∀ x y, x < W → P x y = Q x 0) : ∀ k, rowsD 0 t W true P (1 + k) = rowsD 0 t W true Q 1 ++ List.replicate k (((0 + sizeT t : Nat) : Int), 1)
  | 0 => by
    simp only [Nat.add_zero, List.replicate_zero, List.append_nil]
    show rowsD 0 t W true P 0 ++ rowD 0 t W true P 0 = rowsD 0 t W true Q 0 ++ rowD 0 t W true Q 0
    have hs : sameR W P 0 = sameR W Q 0 := by
      unfold sameR upP
      refine decide_eq_decide.2 ⟨fun hh x hx => ?_, fun hh x hx => ?_⟩
      · rw [← h0 x hx]; exact hh x hx
      · rw [h0 x hx]; exact hh x hx
    have hp : ∀ n, n ≤ W → pixD 0 t W P 0 n = pixD 0 t W Q 0 n := by
      intro n
      induction n with
      | zero => intro _; rfl
      | succ n ih =>
        intro hn
        rw [pixD, pixD, ih (by omega), h0 n (by omega), cxJ_congr W P Q t n 0 ht (fun a b ha hb => by
          obtain ⟨rfl, _⟩ : b = 0 ∧ a < n := by omega
          exact h0 a ha)]
    unfold rowD
    rw [hs, hp W (Nat.le_refl _)]
    rfl
  | k + 1 => by
    rw [← Nat.add_assoc, rowsD, rowsD_same t W P Q ht h0 h k, List.replicate_succ', List.append_assoc]
    have hs : sameR W P (1 + k) = true := decide_eq_true (fun x hx => by
      unfold upP
      rw [if_neg (by omega), h x _ hx, h x _ hx])
    unfold rowD
    rw [hs]
    simp
theorem repeats_len (t W : Nat) (P Q : Pxs) (ht : t < 4) (hW : W ≤ 1000) (h : ∀ x y, x < W → P x y = Q x 0) : (codedB (sizeT t + 1) (rowsD 0 t W true P 50)).length ≤ (codedB (sizeT t + 1) (rowsD 0 t W true Q 1)).length + 8 := by
  have hZ := sizeT_le t ht
  have e := rowsD_same t W P Q ht (fun x hx => h x 0 hx) h 49
  rw [show 1 + 49 = 50 from rfl] at e
  have hl := rowsD_length 0 t W true Q 1
  obtain ⟨a1, a2, a3⟩ := runL_ok (newP_ok (n := sizeT t + 1) (by omega) (by omega)) (rowsD 0 t W true Q 1) (by show 0 + _ ≤ _; omega)
  have hmade : (newP (sizeT t + 1)).made = 0 := rfl
  have hxl : (newP (sizeT t + 1)).x.length = sizeT t + 1 := by simp [newP]
  unfold codedB
  rw [e, runL_cat, ← ones_run]
  have e1 : rowsD 0 t W true Q 1 = rowD 0 t W true Q 0 := by show rowsD 0 t W true Q 0 ++ _ = _; rfl
  refine ones_bytes _ (sizeT t) _ a1 (by omega) ?_ (by omega) ?_
  · rw [a3, hxl, Nat.zero_add]; exact placeOf_nat _ _ (by omega)
  · rw [e1]; exact first_row t W Q ht

end Go.Proofs.Ytkggdnkmaldmlaa
