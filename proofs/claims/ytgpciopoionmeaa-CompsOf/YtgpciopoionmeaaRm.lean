/- Plain mathematics of runs: a row of pixels, its longest rows of black neighbours. -/
import Derived.Lib.BitFns
import Derived.Test.YtgpciopoionmeaaPix
namespace Go.Proofs.Ytgpciopoionmeaa

/-- One pixel more: the runs that are closed, and where an open one began. -/
def stS (f : Nat → Bool) (s : List (Nat × Nat) × Option Nat) (x : Nat) : List (Nat × Nat) × Option Nat :=
  match s.2, f x with
  | none, true => (s.1, some x)
  | none, false => s
  | some _, true => s
  | some a, false => (s.1 ++ [(a, x)], none)
def st (f : Nat → Bool) : Nat → List (Nat × Nat) × Option Nat
  | 0 => ([], none)
  | n + 1 => stS f (st f n) n
/-- The runs of the first n pixels. -/
def fin (s : List (Nat × Nat) × Option Nat) (n : Nat) : List (Nat × Nat) :=
  match s.2 with
  | none => s.1
  | some a => s.1 ++ [(a, n)]
def rl (f : Nat → Bool) (n : Nat) : List (Nat × Nat) := fin (st f n) n

theorem st_congr {f g : Nat → Bool} : ∀ {n : Nat}, (∀ i, i < n → f i = g i) → st f n = st g n
  | 0, _ => rfl
  | n + 1, h => by
    show stS f (st f n) n = stS g (st g n) n
    rw [st_congr (fun i hi => h i (by omega))]
    unfold stS
    rw [h n (by omega)]
theorem rl_congr {f g : Nat → Bool} {n : Nat} (h : ∀ i, i < n → f i = g i) : rl f n = rl g n := by unfold rl; rw [st_congr h]

/-- Whether a run is open says the last pixel. -/
theorem st_open (f : Nat → Bool) : ∀ n, (st f n).2.isSome = (decide (0 < n) && f (n - 1))
  | 0 => rfl
  | n + 1 => by
    show (stS f (st f n) n).2.isSome = _
    unfold stS
    cases h1 : (st f n).2 <;> cases h2 : f n <;> simp [h1, h2]
/-- Pixels that are as the last one change nothing. -/
theorem st_stay (f : Nat → Bool) {p : Nat} : ∀ {q : Nat}, p ≤ q → (∀ i, p ≤ i → i < q → f i = (st f p).2.isSome) → st f q = st f p
  | 0, h, _ => by have : p = 0 := by omega
                  subst this; rfl
  | q + 1, h, hc => by
    by_cases e : p = q + 1
    · subst e; rfl
    · have h1 := st_stay f (q := q) (by omega) (fun i a b => hc i a (by omega))
      show stS f (st f q) q = _
      rw [h1]
      have h2 := hc q (by omega) (by omega)
      unfold stS
      cases h3 : (st f p).2 <;> rw [h3] at h2 <;> simp at h2 <;> simp [h2]
theorem st_begin (f : Nat → Bool) {p : Nat} (h : (st f p).2 = none) (hf : f p = true) : st f (p + 1) = ((st f p).1, some p) := by
  show stS f (st f p) p = _
  unfold stS; rw [h, hf]
theorem st_end (f : Nat → Bool) {p a : Nat} (h : (st f p).2 = some a) (hf : f p = false) : st f (p + 1) = ((st f p).1 ++ [(a, p)], none) := by
  show stS f (st f p) p = _
  unfold stS; rw [h, hf]

/-- A row of runs that rise and are apart, from lo on, up to hi. -/
def Apart (hi : Nat) : Nat → List (Nat × Nat) → Prop
  | _, [] => True
  | lo, (a, b) :: t => lo ≤ a ∧ a < b ∧ b ≤ hi ∧ Apart hi (b + 1) t
theorem apart_append {hi lo a b : Nat} : ∀ {l : List (Nat × Nat)}, Apart hi lo l → (∀ r ∈ l, r.2 < a) → lo ≤ a → a < b → b ≤ hi → Apart hi lo (l ++ [(a, b)])
  | [], _, _, h1, h2, h3 => ⟨h1, h2, h3, trivial⟩
  | (c, d) :: t, h, hm, h1, h2, h3 => ⟨h.1, h.2.1, h.2.2.1, apart_append (l := t) h.2.2.2 (fun r hr => hm r (List.mem_cons_of_mem _ hr)) (by have := hm (c, d) (List.mem_cons_self ..); simp at this; omega) h2 h3⟩
theorem apart_mono {hi hj : Nat} (h : hi ≤ hj) : ∀ {lo : Nat} {l : List (Nat × Nat)}, Apart hi lo l → Apart hj lo l
  | _, [], _ => trivial
  | _, (_, _) :: _, ⟨a, b, c, d⟩ => ⟨a, b, Nat.le_trans c h, apart_mono h d⟩
/-- What is closed lies ahead of the open one. -/
theorem st_facts (f : Nat → Bool) : ∀ n, Apart n 0 (st f n).1 ∧ (∀ r ∈ (st f n).1, r.2 < n) ∧ (∀ a, (st f n).2 = some a → a < n ∧ ∀ r ∈ (st f n).1, r.2 < a)
  | 0 => ⟨trivial, by simp [st], by simp [st]⟩
  | n + 1 => by
    obtain ⟨h1, h2, h3⟩ := st_facts f n
    have e : st f (n + 1) = stS f (st f n) n := rfl
    rw [e]; unfold stS
    cases k1 : (st f n).2 with
    | none =>
      cases k2 : f n
      · simp only [k1]
        exact ⟨apart_mono (by omega) h1, fun r hr => by have := h2 r hr; omega, by simp⟩
      · simp only
        exact ⟨apart_mono (by omega) h1, fun r hr => by have := h2 r hr; omega, fun a ha => by simp at ha; subst ha; exact ⟨by omega, h2⟩⟩
    | some a =>
      obtain ⟨h4, h5⟩ := h3 a k1
      cases k2 : f n
      · simp only
        refine ⟨apart_append (apart_mono (by omega) h1) h5 (by omega) h4 (by omega), ?_, by simp⟩
        intro r hr
        rw [List.mem_append] at hr
        rcases hr with hr | hr
        · have := h2 r hr; omega
        · simp at hr; subst hr; show n < n + 1; omega
      · simp only [k1]
        exact ⟨apart_mono (by omega) h1, fun r hr => by have := h2 r hr; omega, fun b hb => by simp at hb; subst hb; exact ⟨by omega, h5⟩⟩
theorem rl_apart (f : Nat → Bool) (n : Nat) : Apart n 0 (rl f n) := by
  obtain ⟨h1, h2, h3⟩ := st_facts f n
  unfold rl fin
  cases k : (st f n).2 with
  | none => exact h1
  | some a => exact apart_append h1 (h3 a k).2 (by omega) (h3 a k).1 (by omega)

/-- Which pixels the runs hold. -/
def inR (l : List (Nat × Nat)) (x : Nat) : Bool := l.any fun r => decide (r.1 ≤ x) && decide (x < r.2)
theorem inR_append (a b : List (Nat × Nat)) (x : Nat) : inR (a ++ b) x = (inR a x || inR b x) := by simp [inR]
theorem inR_far {l : List (Nat × Nat)} {x : Nat} (h : ∀ r ∈ l, r.2 ≤ x) : inR l x = false := by
  unfold inR
  rw [List.any_eq_false]
  intro r hr
  have := h r hr
  simp; omega
theorem inR_one (a b x : Nat) : inR [(a, b)] x = (decide (a ≤ x) && decide (x < b)) := by simp [inR]
theorem st_pix (f : Nat → Bool) : ∀ n x, x < n → inR (fin (st f n) n) x = f x
  | n + 1, x, hx => by
    obtain ⟨h1, h2, h3⟩ := st_facts f n
    have e : st f (n + 1) = stS f (st f n) n := rfl
    rw [e]; unfold stS
    by_cases hxn : x = n
    · subst hxn
      have h4 : inR (st f x).1 x = false := inR_far (fun r hr => by have := h2 r hr; omega)
      cases k1 : (st f x).2 with
      | none => cases k2 : f x <;> simp [fin, k1, inR_append, h4] <;> simp [inR] <;> omega
      | some a =>
        have := h3 a k1
        cases k2 : f x <;> simp [fin, k1, inR_append, h4] <;> simp [inR] <;> omega
    · have ih := st_pix f n x (by omega)
      rw [← ih]
      cases k1 : (st f n).2 with
      | none =>
        cases k2 : f n
        · simp [fin, k1]
        · simp only [fin, k1, inR_append, inR_one]
          rw [decide_eq_false (show ¬ n ≤ x by omega)]; simp
      | some a =>
        cases k2 : f n
        · simp [fin, k1]
        · simp only [fin, k1, inR_append, inR_one]
          rw [decide_eq_true (show x < n + 1 by omega), decide_eq_true (show x < n by omega)]
theorem rl_pix (f : Nat → Bool) {n x : Nat} (h : x < n) : inR (rl f n) x = f x := st_pix f n x h

/-- A step of the plain way: pixel by pixel. -/
theorem rl_succ_white (f : Nat → Bool) {n : Nat} (h : f n = false) : rl f (n + 1) = rl f n := by
  show fin (stS f (st f n) n) (n + 1) = _
  unfold stS rl
  cases k : (st f n).2 <;> simp [h, fin, k]
theorem rl_succ_new (f : Nat → Bool) {n : Nat} (h : f n = true) (hb : (decide (0 < n) && f (n - 1)) = false) : rl f (n + 1) = rl f n ++ [(n, n + 1)] := by
  have k : (st f n).2 = none := by
    have := st_open f n
    rw [hb] at this
    simpa using this
  show fin (stS f (st f n) n) (n + 1) = _
  unfold stS rl
  simp [h, k, fin]
theorem rl_succ_on (f : Nat → Bool) {n : Nat} (h : f n = true) (hb : (decide (0 < n) && f (n - 1)) = true) : ∃ l a, rl f n = l ++ [(a, n)] ∧ rl f (n + 1) = l ++ [(a, n + 1)] := by
  have h1 := st_open f n
  rw [hb] at h1
  obtain ⟨a, k⟩ := Option.isSome_iff_exists.1 h1
  refine ⟨(st f n).1, a, ?_, ?_⟩
  · unfold rl fin; rw [k]
  · show fin (stS f (st f n) n) (n + 1) = _
    unfold stS
    simp [h, k, fin]

theorem bitLenAux_bits : ∀ (k x : Nat), x < 2 ^ k → x < 2 ^ Lib.bitLenAux k x ∧ (Lib.bitLenAux k x ≠ 0 → 2 ^ (Lib.bitLenAux k x - 1) ≤ x)
  | 0, x, h => by have : x = 0 := by simpa using h
                  subst this; exact ⟨by decide, fun hh => absurd rfl hh⟩
  | k + 1, x, h => by
    unfold Lib.bitLenAux
    by_cases h0 : x = 0
    · subst h0; simp
    · rw [if_neg h0]
      have h1 : x / 2 < 2 ^ k := by rw [Nat.pow_succ] at h; omega
      obtain ⟨a, b⟩ := bitLenAux_bits k (x / 2) h1
      refine ⟨by rw [Nat.add_comm, Nat.pow_succ]; omega, fun _ => ?_⟩
      rw [Nat.add_sub_cancel_left]
      by_cases h2 : Lib.bitLenAux k (x / 2) = 0
      · rw [h2]; simp; omega
      · have := b h2
        rw [show Lib.bitLenAux k (x / 2) = Lib.bitLenAux k (x / 2) - 1 + 1 by omega, Nat.pow_succ]; omega
theorem bitLen_bits (x : Nat) (h : x < 18446744073709551616) : Lib.bitLen x ≤ 64 ∧ (∀ i, Lib.bitLen x ≤ i → x.testBit i = false) ∧ (Lib.bitLen x ≠ 0 → x.testBit (Lib.bitLen x - 1) = true) := by
  obtain ⟨a, b⟩ := bitLenAux_bits 64 x h
  refine ⟨Lib.bitLen_le x 64 (by omega) h, fun i hi => Nat.testBit_lt_two_pow (Nat.lt_of_lt_of_le a (Nat.pow_le_pow_right (by omega) hi)), fun hn => ?_⟩
  have hb := b hn
  show x.testBit (Lib.bitLenAux 64 x - 1) = true
  have hn' : Lib.bitLenAux 64 x ≠ 0 := hn
  generalize Lib.bitLenAux 64 x = L at *
  obtain ⟨M, rfl⟩ : ∃ M, L = M + 1 := ⟨L - 1, by omega⟩
  rw [Nat.add_sub_cancel] at hb ⊢
  rw [Nat.testBit_eq_decide_div_mod_eq]
  have h1 : x / 2 ^ M = 1 := by
    rw [Nat.pow_succ] at a
    have h2 := Nat.two_pow_pos M
    have h3 : x / 2 ^ M < 2 := (Nat.div_lt_iff_lt_mul h2).2 (by omega)
    have h4 : 1 ≤ x / 2 ^ M := (Nat.le_div_iff_mul_le h2).2 (by omega)
    omega
  rw [h1]; rfl

/-- A word, turned over within a run, shifted: how many leading pixels, from g on, are of the run's colour. -/
def flip (t : Bool) (x : Nat) : Nat := if t then 18446744073709551615 ^^^ x else x
def lead (t : Bool) (x g : Nat) : Nat := 64 - Lib.bitLen (flip t x * 2 ^ g % 18446744073709551616)
theorem testBit_ones (i : Nat) : (18446744073709551615 : Nat).testBit i = decide (i < 64) := Nat.testBit_two_pow_sub_one 64 i
theorem flip_bit (t : Bool) (f : Nat → Bool) (j : Nat) (hj : j < 64) : (flip t (wordOf f)).testBit (63 - j) = (t ^^ f j) := by
  unfold flip
  cases t
  · simp [bit_wordOf f j hj]
  · rw [if_pos rfl, Nat.testBit_xor, bit_wordOf f j hj, testBit_ones, decide_eq_true (by omega)]
theorem flip_lt (t : Bool) (f : Nat → Bool) : flip t (wordOf f) < 18446744073709551616 := by
  have h := wordOf_lt f
  unfold flip
  cases t
  · simpa using h
  · exact Nat.xor_lt_two_pow (n := 64) (by decide) h
theorem lead_le (t : Bool) (x g : Nat) : lead t x g ≤ 64 := Nat.sub_le _ _
theorem lead_spec (t : Bool) (f : Nat → Bool) (g : Nat) (hg : g < 64) : (∀ j, j < lead t (wordOf f) g → g + j < 64 → f (g + j) = t) ∧ (g + lead t (wordOf f) g < 64 → f (g + lead t (wordOf f) g) = !t) := by
  have hb : ∀ j, g + j < 64 → (flip t (wordOf f) * 2 ^ g % 18446744073709551616).testBit (63 - j) = (t ^^ f (g + j)) := fun j hj => by
    rw [show (18446744073709551616 : Nat) = 2 ^ 64 from rfl, Nat.testBit_mod_two_pow, decide_eq_true (show 63 - j < 64 by omega), Bool.true_and, Nat.mul_comm, Nat.testBit_two_pow_mul, decide_eq_true (show g ≤ 63 - j by omega), Bool.true_and, show 63 - j - g = 63 - (g + j) by omega, flip_bit t f _ hj]
  have hx : flip t (wordOf f) * 2 ^ g % 18446744073709551616 < 18446744073709551616 := Nat.mod_lt _ (by decide)
  obtain ⟨l1, l2, l3⟩ := bitLen_bits _ hx
  unfold lead
  generalize flip t (wordOf f) * 2 ^ g % 18446744073709551616 = x at *
  generalize Lib.bitLen x = L at *
  refine ⟨fun j hj hg2 => ?_, fun hg2 => ?_⟩
  · have h1 := l2 (63 - j) (by omega)
    rw [hb j hg2] at h1
    cases t <;> cases hf : f (g + j) <;> rw [hf] at h1 <;> simp at h1 <;> rfl
  · have h1 := l3 (by omega)
    have h2 := hb (64 - L) hg2
    rw [show 63 - (64 - L) = L - 1 by omega, h1] at h2
    cases t <;> cases hf : f (g + (64 - L)) <;> rw [hf] at h2 <;> simp at h2 <;> rfl

end Go.Proofs.Ytgpciopoionmeaa
