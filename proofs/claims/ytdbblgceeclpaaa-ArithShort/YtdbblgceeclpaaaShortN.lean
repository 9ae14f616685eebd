/- How many bytes decisions cost that are all alike. -/
import Derived.Test.YtdbblgceeclpaaaShortM
import Derived.Test.YtdbblgceeclpaaaTwo
namespace Go.Proofs.Ytdbblgceeclpaaa

theorem Is.mono {o : Co} {c e : Cfg} (h : Is o c) (h1 : e.a = c.a) (h2 : e.st = c.st) (h3 : c.d ≤ e.d) : Is o e :=
  ⟨h.a.trans h1.symm, h.st.trans h2.symm, h.tpos, by have := h.len; omega⟩

def addCfg (c : Cfg) : List Cfg → List Cfg
  | [] => [c]
  | e :: t => if e.a = c.a ∧ e.st = c.st then { e with d := max e.d c.d } :: t else e :: addCfg c t
def Cov (l : List Cfg) (e : Cfg) : Prop := ∃ x ∈ l, x.a = e.a ∧ x.st = e.st ∧ e.d ≤ x.d

theorem addCfg_new (c : Cfg) : ∀ l, Cov (addCfg c l) c
  | [] => ⟨c, List.mem_singleton.2 rfl, rfl, rfl, Nat.le_refl _⟩
  | e :: t => by
    unfold addCfg
    split
    · rename_i h
      exact ⟨_, List.mem_cons_self, h.1, h.2, Nat.le_max_right _ _⟩
    · obtain ⟨x, hx, r⟩ := addCfg_new c t
      exact ⟨x, List.mem_cons_of_mem _ hx, r⟩
theorem addCfg_old (c e : Cfg) : ∀ l, Cov l e → Cov (addCfg c l) e
  | [], ⟨x, hx, _⟩ => by cases hx
  | y :: t, ⟨x, hx, r1, r2, r3⟩ => by
    unfold addCfg
    split
    · rcases List.mem_cons.1 hx with rfl | hx
      · exact ⟨_, List.mem_cons_self, r1, r2, Nat.le_trans r3 (Nat.le_max_left _ _)⟩
      · exact ⟨x, List.mem_cons_of_mem _ hx, r1, r2, r3⟩
    · rcases List.mem_cons.1 hx with rfl | hx
      · exact ⟨_, List.mem_cons_self, r1, r2, r3⟩
      · obtain ⟨z, hz, r⟩ := addCfg_old c e t ⟨x, hx, r1, r2, r3⟩
        exact ⟨z, List.mem_cons_of_mem _ hz, r⟩

def bothC (k : Nat) (l : List Cfg) (c : Cfg) : List Cfg := addCfg (lps c k) (addCfg (mps c k) l)
theorem both_old (k : Nat) (e : Cfg) : ∀ (l acc : List Cfg), Cov acc e → Cov (l.foldl (bothC k) acc) e
  | [], _, h => h
  | _ :: t, _, h => both_old k e t _ (addCfg_old _ _ _ (addCfg_old _ _ _ h))
theorem both_new (k : Nat) (c : Cfg) : ∀ (l acc : List Cfg), c ∈ l → Cov (l.foldl (bothC k) acc) (mps c k) ∧ Cov (l.foldl (bothC k) acc) (lps c k)
  | [], _, h => by cases h
  | e :: t, acc, h => by
    rcases List.mem_cons.1 h with rfl | h
    · exact ⟨both_old k _ t _ (addCfg_old _ _ _ (addCfg_new _ _)), both_old k _ t _ (addCfg_new _ _)⟩
    · exact both_new k c t _ h

def firstSet (n : Nat) : Nat → List Cfg
  | 0 => [{ a := 32768, st := List.replicate n 0, d := 0 }]
  | k + 1 => (firstSet n k).foldl (bothC k) []

/-- Decision i is of context i modulo n, and each context has its own bit. -/
def ctxOf (n : Nat) (i : Nat) : Int := ((i % n : Nat) : Int)
def bitOf (n : Nat) (F : Nat → Nat) (i : Nat) : Nat := F (i % n)

theorem learn_even (k : Bool) (y bit : Nat) (h : (k = true ∧ bit = y % 2) ∨ (k = false ∧ y = 0 ∧ bit = 1)) : learnP k y % 2 = bit := by
  rcases h with ⟨rfl, h⟩ | ⟨rfl, rfl, rfl⟩
  · rw [learnP, if_pos rfl]; omega
  · decide

theorem getD_set (x : List Nat) (j v i : Nat) (hj : j < x.length) : (x.set j v).getD i 0 = if i = j then v else x.getD i 0 := by
  rw [List.getD_eq_getElem?_getD, List.getD_eq_getElem?_getD, List.getElem?_set]
  by_cases h : j = i
  · subst h; rw [if_pos rfl, if_pos rfl, if_pos hj]; rfl
  · rw [if_neg h, if_neg (Ne.symm h)]

/-- What a put leaves in the contexts. -/
theorem put_lik (o : Co) (i : Int) (j bit : Nat) (hj : placeOf i o.x.length = j) (hjl : j < o.x.length) (hb : bit = o.x.getD j 0 % 2 ∨ (o.x.getD j 0 = 0 ∧ bit = 1)) :
    (putP o i bit).x.getD j 0 % 2 = bit ∧ ∀ m, m ≠ j → (putP o i bit).x.getD m 0 = o.x.getD m 0 := by
  have e : (putP o i bit).x = o.x.set j (codeX o.s (o.x.getD j 0) bit) := by simp only [putP, hj]
  rw [e]
  refine ⟨?_, fun m hm => by rw [getD_set _ _ _ _ hjl, if_neg hm]⟩
  rw [getD_set _ _ _ _ hjl, if_pos rfl, codeX]
  split
  · rename_i h; rw [h.1]
  · refine learn_even _ _ _ ?_
    rcases hb with h | ⟨h1, h2⟩
    · exact Or.inl ⟨decide_eq_true h, h⟩
    · by_cases h : bit = o.x.getD j 0 % 2
      · exact Or.inl ⟨decide_eq_true h, h⟩
      · exact Or.inr ⟨decide_eq_false h, h1, h2⟩

theorem first_cov {n : Nat} (h1 : 1 ≤ n) (h2 : n ≤ 131072) (F : Nat → Nat) (hF : ∀ j, F j < 2) : ∀ k, k ≤ n →
    (∃ c ∈ firstSet n k, Is (runC n (ctxOf n) (bitOf n F) k) c) ∧ (∀ j, j < k → (runC n (ctxOf n) (bitOf n F) k).x.getD j 0 % 2 = F j) ∧ (∀ j, k ≤ j → (runC n (ctxOf n) (bitOf n F) k).x.getD j 0 = 0)
  | 0, _ => by
    refine ⟨⟨_, List.mem_singleton.2 rfl, ⟨rfl, by simp [runC, newP], by show 1 ≤ 12; decide, by show 12 + 7 * 0 ≤ 0 + 12; decide⟩⟩, by omega, fun j _ => ?_⟩
    show (List.replicate n 0).getD j 0 = 0
    rw [List.getD_eq_getElem?_getD, List.getElem?_replicate]; split <;> rfl
  | k + 1, hk => by
    obtain ⟨⟨c, hc, his⟩, hl, hz⟩ := first_cov h1 h2 F hF k (by omega)
    obtain ⟨ok1, ok2, ok3⟩ := runC_ok h1 h2 (ctxOf n) (bitOf n F) k (by omega)
    have hkm : k % n = k := Nat.mod_eq_of_lt (by omega)
    have hp : placeOf (ctxOf n k) (runC n (ctxOf n) (bitOf n F) k).x.length = k := by
      rw [ok3]; unfold ctxOf; rw [hkm]; exact placeOf_nat k n (by omega)
    have hb : bitOf n F k = F k := by unfold bitOf; rw [hkm]
    have hx0 := hz k (Nat.le_refl _)
    obtain ⟨m1, m2⟩ := his.put (ctxOf n k) k (bitOf n F k) hp
    have hlik := put_lik (runC n (ctxOf n) (bitOf n F) k) (ctxOf n k) k (bitOf n F k) hp (by rw [ok3]; omega) (by
      rw [hx0, hb]
      have := hF k
      by_cases h : F k = 0
      · exact Or.inl (by rw [h])
      · exact Or.inr ⟨rfl, by omega⟩)
    refine ⟨?_, ?_, ?_⟩
    · obtain ⟨n1, n2⟩ := both_new k c (firstSet n k) [] hc
      by_cases h : bitOf n F k = (runC n (ctxOf n) (bitOf n F) k).x.getD k 0 % 2
      · obtain ⟨e, he, a1, a2, a3⟩ := n1
        exact ⟨e, he, (m1 h).mono a1 a2 a3⟩
      · obtain ⟨e, he, a1, a2, a3⟩ := n2
        exact ⟨e, he, (m2 h).mono a1 a2 a3⟩
    · intro j hj
      show (putP _ _ _).x.getD j 0 % 2 = F j
      by_cases h : j = k
      · subst h; rw [hlik.1, hb]
      · rw [hlik.2 j h]; exact hl j (by omega)
    · intro j hj
      show (putP _ _ _).x.getD j 0 = 0
      rw [hlik.2 j (by omega)]; exact hz j (by omega)

/-- Decisions of the likelier bits, from the i-th on. -/
def mpsN (n : Nat) : Nat → Nat → Cfg → Cfg
  | 0, _, c => c
  | k + 1, i, c => mpsN n k (i + 1) (mps c (i % n))
theorem mpsN_add (n : Nat) : ∀ (k m i : Nat) (c : Cfg), mpsN n (k + m) i c = mpsN n m (i + k) (mpsN n k i c)
  | 0, m, i, c => by rw [Nat.zero_add]; rfl
  | k + 1, m, i, c => by
    rw [show k + 1 + m = (k + m) + 1 by omega]
    show mpsN n (k + m) (i + 1) (mps c (i % n)) = mpsN n m (i + (k + 1)) (mpsN n k (i + 1) (mps c (i % n)))
    rw [mpsN_add n k m (i + 1), show i + 1 + k = i + (k + 1) by omega]

theorem rest_is {n : Nat} (h1 : 1 ≤ n) (h2 : n ≤ 131072) (F : Nat → Nat) {c : Cfg} (hc : Is (runC n (ctxOf n) (bitOf n F) n) c) (hl : ∀ j, j < n → (runC n (ctxOf n) (bitOf n F) n).x.getD j 0 % 2 = F j) :
    ∀ k, n + k ≤ 16777216 → Is (runC n (ctxOf n) (bitOf n F) (n + k)) (mpsN n k n c) ∧ ∀ j, j < n → (runC n (ctxOf n) (bitOf n F) (n + k)).x.getD j 0 % 2 = F j
  | 0, _ => ⟨hc, hl⟩
  | k + 1, hk => by
    obtain ⟨his, hlk⟩ := rest_is h1 h2 F hc hl k (by omega)
    obtain ⟨ok1, ok2, ok3⟩ := runC_ok h1 h2 (ctxOf n) (bitOf n F) (n + k) (by omega)
    have hlt : (n + k) % n < n := Nat.mod_lt _ (by omega)
    have hp : placeOf (ctxOf n (n + k)) (runC n (ctxOf n) (bitOf n F) (n + k)).x.length = (n + k) % n := by
      rw [ok3]; exact placeOf_nat _ n hlt
    have hb : bitOf n F (n + k) = (runC n (ctxOf n) (bitOf n F) (n + k)).x.getD ((n + k) % n) 0 % 2 := (hlk _ hlt).symm
    have hlik := put_lik (runC n (ctxOf n) (bitOf n F) (n + k)) (ctxOf n (n + k)) ((n + k) % n) (bitOf n F (n + k)) hp (by rw [ok3]; exact hlt) (Or.inl hb)
    refine ⟨?_, fun j hj => ?_⟩
    · rw [mpsN_add n k 1 n c]
      exact (his.put (ctxOf n (n + k)) ((n + k) % n) (bitOf n F (n + k)) hp).1 hb
    · show (putP (runC n (ctxOf n) (bitOf n F) (n + k)) (ctxOf n (n + k)) (bitOf n F (n + k))).x.getD j 0 % 2 = F j
      by_cases h : j = (n + k) % n
      · subst h; rw [hlik.1]; rfl
      · rw [hlik.2 j h]; exact hlk j hj

/-- Whole rounds without a renewal. -/
def sumQ : List Nat → Nat
  | [] => 0
  | s :: t => rQ s + sumQ t
theorem sumQ_take (l : List Nat) : ∀ k, k < l.length → sumQ (l.take (k + 1)) = sumQ (l.take k) + rQ (l.getD k 0) := by
  induction l with
  | nil => intro k hk; simp at hk
  | cons s t ih =>
    intro k hk
    cases k with
    | zero => simp [sumQ, List.getD_eq_getElem?_getD]
    | succ k =>
      have := ih k (by simp at hk; omega)
      simp only [List.take_succ_cons, sumQ]
      rw [this, List.getD_cons_succ]; omega
theorem sumQ_take_le (l : List Nat) : ∀ k, sumQ (l.take k) ≤ sumQ l := by
  induction l with
  | nil => intro k; simp [sumQ]
  | cons s t ih =>
    intro k
    cases k with
    | zero => simp [sumQ]
    | succ k => simp only [List.take_succ_cons, sumQ]; have := ih k; omega

theorem round_part (n : Nat) (i : Nat) (hi : i % n = 0) (c : Cfg) (hl : c.st.length = n) (ha : 32768 + sumQ c.st ≤ c.a) : ∀ k, k ≤ n → mpsN n k i c = { c with a := c.a - sumQ (c.st.take k) }
  | 0, _ => by simp [mpsN, sumQ]
  | k + 1, hk => by
    rw [mpsN_add n k 1 i c, round_part n i hi c hl ha k (by omega)]
    show mps _ ((i + k) % n) = _
    have hm : (i + k) % n = k := by rw [Nat.add_mod, hi, Nat.zero_add, Nat.mod_mod, Nat.mod_eq_of_lt (by omega)]
    have e := sumQ_take c.st k (by omega)
    have e2 := sumQ_take_le c.st (k + 1)
    rw [hm, mps, if_pos (by show 32768 ≤ c.a - sumQ (c.st.take k) - rQ (c.st.getD k 0); omega)]
    rw [e]
    simp only [Cfg.mk.injEq, and_true]
    omega
theorem rounds_part (n : Nat) (hn : 0 < n) : ∀ (R i : Nat) (c : Cfg), i % n = 0 → c.st.length = n → 32768 + R * sumQ c.st ≤ c.a → mpsN n (R * n) i c = { c with a := c.a - R * sumQ c.st }
  | 0, i, c, _, _, _ => by simp [mpsN]
  | R + 1, i, c, hi, hl, ha => by
    rw [Nat.add_mul, Nat.one_mul] at ha
    rw [Nat.add_mul, Nat.one_mul, Nat.add_comm (R * n) n, mpsN_add n n (R * n) i c, round_part n i hi c hl (by omega) n (Nat.le_refl _), List.take_of_length_le (by omega)]
    rw [rounds_part n hn R (i + n) { c with a := c.a - sumQ c.st } (by rw [Nat.add_mod_right]; exact hi) hl (by show 32768 + R * sumQ c.st ≤ c.a - sumQ c.st; omega)]
    simp only [Cfg.mk.injEq, and_true]
    rw [Nat.add_mul]; omega

/-- The same, faster. -/
def jump (n i : Nat) (c : Cfg) : Nat := if i % n = 0 then min ((c.a - 32768) / sumQ c.st) ((20000 - i) / n) else 0
def fast (n : Nat) : Nat → Nat → Cfg → Nat × Cfg
  | 0, i, c => (i, c)
  | f + 1, i, c =>
    if 20000 ≤ i then (i, c)
    else if jump n i c = 0 then fast n f (i + 1) (mps c (i % n))
    else fast n f (i + jump n i c * n) { c with a := c.a - jump n i c * sumQ c.st }

theorem mps_len (c : Cfg) (j : Nat) : (mps c j).st.length = c.st.length := by
  unfold mps
  split
  · rfl
  · split <;> simp
theorem fast_is (n : Nat) (hn : 0 < n) : ∀ (f i : Nat) (c : Cfg), c.st.length = n → i ≤ 20000 → (fast n f i c).1 ≤ 20000 ∧ i ≤ (fast n f i c).1 ∧ (fast n f i c).2 = mpsN n ((fast n f i c).1 - i) i c
  | 0, i, c, _, hi => ⟨hi, Nat.le_refl _, by simp [fast, mpsN]⟩
  | f + 1, i, c, hl, hi => by
    unfold fast
    split
    · exact ⟨hi, Nat.le_refl _, by simp [mpsN]⟩
    · rename_i hlt
      split
      · obtain ⟨r1, r2, r3⟩ := fast_is n hn f (i + 1) (mps c (i % n)) (by rw [mps_len]; exact hl) (by omega)
        refine ⟨r1, by omega, ?_⟩
        rw [r3, show (fast n f (i + 1) (mps c (i % n))).1 - i = 1 + ((fast n f (i + 1) (mps c (i % n))).1 - (i + 1)) by omega, mpsN_add]
        rfl
      · rename_i hj
        have hi0 : i % n = 0 := by
          unfold jump at hj
          by_cases h : i % n = 0
          · exact h
          · rw [if_neg h] at hj; exact absurd rfl hj
        have hje : jump n i c = min ((c.a - 32768) / sumQ c.st) ((20000 - i) / n) := by rw [jump, if_pos hi0]
        have hj1 : jump n i c ≤ (c.a - 32768) / sumQ c.st := by rw [hje]; exact Nat.min_le_left _ _
        have hj2 : jump n i c ≤ (20000 - i) / n := by rw [hje]; exact Nat.min_le_right _ _
        obtain ⟨R, hR⟩ : ∃ R, R = jump n i c := ⟨_, rfl⟩
        rw [← hR] at hj hj1 hj2 ⊢
        have hq1 : R * sumQ c.st ≤ c.a - 32768 := Nat.le_trans (Nat.mul_le_mul_right _ hj1) (Nat.div_mul_le_self _ _)
        have hq2 : R * n ≤ 20000 - i := Nat.le_trans (Nat.mul_le_mul_right _ hj2) (Nat.div_mul_le_self _ _)
        have hs : 1 ≤ sumQ c.st ∨ sumQ c.st = 0 := by omega
        have ha : 32768 + R * sumQ c.st ≤ c.a := by
          rcases hs with hs | hs
          · have : 1 ≤ R * sumQ c.st := Nat.mul_pos (by omega) hs
            omega
          · rw [hs, Nat.div_zero] at hj1; omega
        obtain ⟨r1, r2, r3⟩ := fast_is n hn f (i + R * n) { c with a := c.a - R * sumQ c.st } hl (by omega)
        refine ⟨r1, by omega, ?_⟩
        rw [r3, show (fast n f (i + R * n) { c with a := c.a - R * sumQ c.st }).1 - i = R * n + ((fast n f (i + R * n) { c with a := c.a - R * sumQ c.st }).1 - (i + R * n)) by omega, mpsN_add, rounds_part n hn R i c hi0 hl ha]

def shortOK (n : Nat) : Bool := (firstSet n n).all fun c => c.st.length == n && (fast n 6000 n c).1 == 20000 && decide ((fast n 6000 n c).2.d ≤ 48 + 21 * n)

theorem short_len {n : Nat} (h1 : 1 ≤ n) (h2 : n ≤ 12) (hok : shortOK n = true) (F : Nat → Nat) (hF : ∀ j, F j < 2) : (runC n (ctxOf n) (bitOf n F) 20000).s.b.length ≤ 6 + 3 * n := by
  obtain ⟨⟨c, hc, his⟩, hl, _⟩ := first_cov h1 (by omega) F hF n (Nat.le_refl _)
  have hall := List.all_eq_true.1 hok c hc
  simp only [Bool.and_eq_true, beq_iff_eq, decide_eq_true_eq] at hall
  obtain ⟨⟨k1, k2⟩, k3⟩ := hall
  obtain ⟨r, _⟩ := rest_is h1 (by omega) F his hl (20000 - n) (by omega)
  rw [show n + (20000 - n) = 20000 by omega] at r
  obtain ⟨f1, f2, f3⟩ := fast_is n h1 6000 n c k1 (by omega)
  rw [k2] at f3
  rw [← f3] at r
  have t := (runC_ok h1 (by omega) (ctxOf n) (bitOf n F) 20000 (by decide)).1.ok.cw.tlt
  have := r.len
  omega

theorem shortAll (n : Nat) (h1 : 1 ≤ n) (h2 : n ≤ 12) : shortOK n = true := by
  have h : (List.range 13).all (fun n => n == 0 || shortOK n) = true := by decide +kernel
  have := List.all_eq_true.1 h n (List.mem_range.2 (by omega))
  simp only [Bool.or_eq_true, beq_iff_eq] at this
  rcases this with e | e
  · omega
  · exact e

end Go.Proofs.Ytdbblgceeclpaaa
