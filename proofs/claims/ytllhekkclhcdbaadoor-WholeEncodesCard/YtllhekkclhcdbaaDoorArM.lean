/- The coder and the decoder as plain functions, and what stays within bounds. -/
import Derived.WalkKit
import Derived.WalkSpells
import Derived.WalkLawsBesides
namespace Go.Proofs.YtllhekkclhcdbaaDoor
open Go.RowKit

/-- The table: sizes, next states. -/
def qs : List Nat := [0x5601, 0x3401, 0x1801, 0x0ac1, 0x0521, 0x0221, 0x5601, 0x5401, 0x4801, 0x3801, 0x3001, 0x2401, 0x1c01, 0x1601, 0x5601, 0x5401, 0x5101, 0x4801, 0x3801, 0x3401, 0x3001, 0x2801, 0x2401, 0x2201, 0x1c01, 0x1801, 0x1601, 0x1401, 0x1201, 0x1101, 0x0ac1, 0x09c1, 0x08a1, 0x0521, 0x0441, 0x02a1, 0x0221, 0x0141, 0x0111, 0x0085, 0x0049, 0x0025, 0x0015, 0x0009, 0x0005, 0x0001, 0x5601]
def ms : List Nat := [1, 2, 3, 4, 5, 38, 7, 8, 9, 10, 11, 12, 13, 29, 15, 16, 17, 18, 19, 20, 21, 22, 23, 24, 25, 26, 27, 28, 29, 30, 31, 32, 33, 34, 35, 36, 37, 38, 39, 40, 41, 42, 43, 44, 45, 45, 46]
def ls : List Nat := [1, 6, 9, 12, 29, 33, 6, 14, 14, 14, 17, 18, 20, 21, 14, 14, 15, 16, 17, 18, 19, 19, 20, 21, 22, 23, 24, 25, 26, 27, 28, 29, 30, 31, 32, 33, 34, 35, 36, 37, 38, 39, 40, 41, 42, 43, 46]
def rQ (s : Nat) : Nat := qs.getD s 0
def rM (s : Nat) : Nat := ms.getD s 0
def rL (s : Nat) : Nat := ls.getD s 0
def rS (s : Nat) : Bool := s == 0 || s == 6 || s == 14

theorem rQ_bd : ∀ s, s < 47 → 1 ≤ rQ s ∧ rQ s ≤ 22017 := by decide
theorem rM_bd : ∀ s, s < 47 → rM s < 47 := by decide
theorem rL_bd : ∀ s, s < 47 → rL s < 47 := by decide

/-- A context behind a decision. -/
def learnP (likely : Bool) (x : Nat) : Nat :=
  if likely then 2 * rM (x / 2) + x % 2 else 2 * rL (x / 2) + (if rS (x / 2) then 1 - x % 2 else x % 2)

theorem learnP_lt (k : Bool) (x : Nat) (h : x < 94) : learnP k x < 94 := by
  have h1 := rM_bd (x / 2) (by omega)
  have h2 := rL_bd (x / 2) (by omega)
  unfold learnP
  split
  · omega
  · split <;> omega

/-- The coder's registers, the bytes but the last one, the last one. -/
structure Cs where
  a : Nat
  c : Nat
  t : Nat
  b : List Nat
  l : Nat
deriving DecidableEq

def Cs.bytes (s : Cs) : List Nat := s.b ++ [s.l]

/-- A byte goes out. -/
def outC (c l : Nat) : Nat := if 134217728 ≤ c ∧ l ≠ 255 then c % 134217728 else c
def outL (c l : Nat) : Nat := if 134217728 ≤ c ∧ l ≠ 255 then l + 1 else l
def outLow (l : Nat) : Nat := if l = 255 then 20 else 19
def outT (l : Nat) : Nat := if l = 255 then 7 else 8
def outP (s : Cs) : Cs :=
  { a := s.a, c := outC s.c s.l % 2 ^ outLow (outL s.c s.l), t := outT (outL s.c s.l), b := s.b ++ [outL s.c s.l], l := outC s.c s.l / 2 ^ outLow (outL s.c s.l) % 256 }

def doubled (s : Cs) : Cs :=
  if s.t = 1 then outP { s with a := 2 * s.a, c := 2 * s.c, t := 0 } else { s with a := 2 * s.a, c := 2 * s.c, t := s.t - 1 }

def renewP : Nat → Cs → Cs
  | 0, s => s
  | n + 1, s => if (doubled s).a < 32768 then renewP n (doubled s) else doubled s

/-- Ahead of a decision: what A becomes, what C becomes. -/
def codeS (s : Cs) (q : Nat) (likely : Bool) : Cs :=
  if likely = decide (s.a - q < q) then { s with a := q } else { s with a := s.a - q, c := s.c + q }
def codeP (s : Cs) (x bit : Nat) : Cs :=
  if bit = x % 2 ∧ 32768 ≤ s.a - rQ (x / 2) then { s with a := s.a - rQ (x / 2), c := s.c + rQ (x / 2) }
  else renewP 16 (codeS s (rQ (x / 2)) (decide (bit = x % 2)))
def codeX (s : Cs) (x bit : Nat) : Nat :=
  if bit = x % 2 ∧ 32768 ≤ s.a - rQ (x / 2) then x else learnP (decide (bit = x % 2)) x

/-- What holds while it is renewed. -/
structure Cw (s : Cs) : Prop where
  apos : 1 ≤ s.a
  alt : s.a < 65536
  room : (s.c + s.a) * 2 ^ s.t ≤ 268435456
  tpos : 1 ≤ s.t
  tlt : s.t ≤ 12
  llt : s.l < 256
  blt : ∀ x ∈ s.b, x < 256

theorem Cw.c_lt {s : Cs} (h : Cw s) : s.c + s.a ≤ 134217728 := by
  have h1 := h.room
  have h2 : 2 ^ 1 ≤ 2 ^ s.t := Nat.pow_le_pow_right (by omega) h.tpos
  have h3 := Nat.mul_le_mul_left (s.c + s.a) h2
  omega

theorem outC_lt {c l : Nat} (h : c < 268435456) : outC c l < 268435456 := by
  unfold outC; split <;> omega
theorem outL_lt {c l : Nat} (h : l < 256) : outL c l < 256 := by
  unfold outL; split <;> omega

theorem outP_cw {s : Cs} (h1 : 1 ≤ s.a) (h2 : s.a < 65536) (h4 : s.l < 256) (h5 : ∀ x ∈ s.b, x < 256) : Cw (outP s) := by
  have hl := outL_lt (c := s.c) h4
  refine ⟨h1, h2, ?_, ?_, ?_, ?_, ?_⟩
  · show (outC s.c s.l % 2 ^ outLow (outL s.c s.l) + s.a) * 2 ^ outT (outL s.c s.l) ≤ 268435456
    unfold outLow outT
    split
    · have : outC s.c s.l % 2 ^ 20 < 2 ^ 20 := Nat.mod_lt _ (by decide)
      omega
    · have : outC s.c s.l % 2 ^ 19 < 2 ^ 19 := Nat.mod_lt _ (by decide)
      omega
  · show 1 ≤ outT (outL s.c s.l)
    unfold outT; split <;> omega
  · show outT (outL s.c s.l) ≤ 12
    unfold outT; split <;> omega
  · exact Nat.mod_lt _ (by decide)
  · intro x hx
    simp only [outP, List.mem_append, List.mem_singleton] at hx
    rcases hx with hx | rfl
    · exact h5 x hx
    · exact hl

theorem doubled_cw {s : Cs} (h : Cw s) (ha : s.a < 32768) : Cw (doubled s) := by
  unfold doubled
  split
  · exact outP_cw (by have := h.apos; show 1 ≤ 2 * s.a; omega) (by show 2 * s.a < 65536; omega) h.llt h.blt
  · rename_i ht
    have hp := h.tpos
    refine ⟨?_, ?_, ?_, ?_, ?_, h.llt, h.blt⟩
    · have := h.apos; show 1 ≤ 2 * s.a; omega
    · show 2 * s.a < 65536; omega
    · show (2 * s.c + 2 * s.a) * 2 ^ (s.t - 1) ≤ 268435456
      have h1 := h.room
      obtain ⟨k, hk⟩ : ∃ k, s.t = k + 1 := ⟨s.t - 1, by omega⟩
      rw [hk, Nat.pow_succ] at h1
      rw [hk, Nat.add_sub_cancel, ← Nat.mul_add, Nat.mul_comm 2, Nat.mul_assoc, Nat.mul_comm 2]
      exact h1
    · show 1 ≤ s.t - 1; omega
    · show s.t - 1 ≤ 12; have := h.tlt; omega

theorem doubled_a (s : Cs) : (doubled s).a = 2 * s.a := by unfold doubled; split <;> rfl

theorem renewP_cw : ∀ (n : Nat) (s : Cs), Cw s → s.a < 32768 → 32768 ≤ s.a * 2 ^ n → Cw (renewP n s) ∧ 32768 ≤ (renewP n s).a
  | 0, s, _, ha, hn => by omega
  | n + 1, s, h, ha, hn => by
    have hd := doubled_cw h ha
    unfold renewP
    split
    · rename_i hlt
      refine renewP_cw n (doubled s) hd hlt ?_
      rw [doubled_a, Nat.mul_comm 2, Nat.mul_assoc, Nat.mul_comm 2, ← Nat.pow_succ]; exact hn
    · exact ⟨hd, by omega⟩

/-- What holds ahead of a decision. -/
structure Cok (s : Cs) : Prop where
  cw : Cw s
  half : 32768 ≤ s.a

theorem codeS_cw {s : Cs} (h : Cok s) {q : Nat} (h1 : 1 ≤ q) (h2 : q ≤ 22017) (k : Bool) : Cw (codeS s q k) := by
  have hh := h.half
  have hr := h.cw.room
  unfold codeS
  split
  · refine ⟨h1, by show q < 65536; omega, ?_, h.cw.tpos, h.cw.tlt, h.cw.llt, h.cw.blt⟩
    exact Nat.le_trans (Nat.mul_le_mul_right _ (by show s.c + q ≤ s.c + s.a; omega)) hr
  · refine ⟨by show 1 ≤ s.a - q; omega, by have := h.cw.alt; show s.a - q < 65536; omega, ?_, h.cw.tpos, h.cw.tlt, h.cw.llt, h.cw.blt⟩
    exact Nat.le_trans (Nat.mul_le_mul_right _ (by show s.c + q + (s.a - q) ≤ s.c + s.a; omega)) hr

theorem codeS_a {s : Cs} (h : Cok s) {q : Nat} (h1 : 1 ≤ q) (h2 : q ≤ 22017) (k : Bool) (hk : ¬ (k = true ∧ 32768 ≤ s.a - q)) : (codeS s q k).a < 32768 := by
  have hh := h.half
  unfold codeS
  split
  · show q < 32768; omega
  · rename_i hn
    show s.a - q < 32768
    by_cases hq : s.a - q < q
    · omega
    · cases k
      · simp [hq] at hn
      · simp at hk; omega

theorem codeP_ok {s : Cs} (h : Cok s) {x : Nat} (hx : x < 94) (bit : Nat) : Cok (codeP s x bit) := by
  obtain ⟨h1, h2⟩ := rQ_bd (x / 2) (by omega)
  have hh := h.half
  unfold codeP
  split
  · rename_i hc
    refine ⟨⟨?_, ?_, ?_, h.cw.tpos, h.cw.tlt, h.cw.llt, h.cw.blt⟩, hc.2⟩
    · show 1 ≤ s.a - _; omega
    · have := h.cw.alt; show s.a - _ < 65536; omega
    · exact Nat.le_trans (Nat.mul_le_mul_right _ (by show s.c + _ + (s.a - _) ≤ s.c + s.a; omega)) h.cw.room
  · rename_i hc
    have hw := codeS_cw h h1 h2 (decide (bit = x % 2))
    have ha := codeS_a h h1 h2 (decide (bit = x % 2)) (by rw [decide_eq_true_eq]; exact hc)
    obtain ⟨r1, r2⟩ := renewP_cw 16 _ hw ha (by have := hw.apos; omega)
    exact ⟨r1, r2⟩

theorem codeX_lt (s : Cs) {x : Nat} (hx : x < 94) (bit : Nat) : codeX s x bit < 94 := by
  unfold codeX; split
  · exact hx
  · exact learnP_lt _ _ hx

theorem doubled_len (s : Cs) : (doubled s).b.length ≤ s.b.length + 1 := by
  unfold doubled; split
  · simp [outP]
  · simp
theorem renewP_len : ∀ (n : Nat) (s : Cs), (renewP n s).b.length ≤ s.b.length + n
  | 0, s => by simp [renewP]
  | n + 1, s => by
    have := doubled_len s
    unfold renewP
    split
    · have := renewP_len n (doubled s); omega
    · omega
theorem codeP_len (s : Cs) (x bit : Nat) : (codeP s x bit).b.length ≤ s.b.length + 16 := by
  unfold codeP; split
  · simp
  · have := renewP_len 16 (codeS s (rQ (x / 2)) (decide (bit = x % 2)))
    have h : (codeS s (rQ (x / 2)) (decide (bit = x % 2))).b = s.b := by unfold codeS; split <;> rfl
    rw [h] at this; exact this

/-- A coder: its registers, its contexts, how many decisions were made. -/
structure Co where
  s : Cs
  x : List Nat
  made : Nat

def placeOf (k : Int) (n : Nat) : Nat := (k % (n : Int)).toNat
theorem placeOf_lt (k : Int) {n : Nat} (h : 0 < n) : placeOf k n < n := by
  unfold placeOf
  have h1 := Int.emod_nonneg k (b := (n : Int)) (by omega)
  have h2 := Int.emod_lt_of_pos k (b := (n : Int)) (by omega)
  omega

def newP (n : Nat) : Co := { s := { a := 32768, c := 0, t := 12, b := [], l := 0 }, x := List.replicate n 0, made := 0 }
def putP (o : Co) (k : Int) (bit : Nat) : Co :=
  { s := codeP o.s (o.x.getD (placeOf k o.x.length) 0) bit, x := o.x.set (placeOf k o.x.length) (codeX o.s (o.x.getD (placeOf k o.x.length) 0) bit), made := o.made + 1 }

structure Ook (o : Co) : Prop where
  ok : Cok o.s
  pos : 0 < o.x.length
  lim : o.x.length ≤ 131072
  cells : ∀ y ∈ o.x, y < 94
  len : o.s.b.length ≤ 16 * o.made
  made : o.made ≤ 16777216

theorem newP_ok {n : Nat} (h : 0 < n) (h2 : n ≤ 131072) : Ook (newP n) := by
  have e : (newP n).s = { a := 32768, c := 0, t := 12, b := [], l := 0 } := rfl
  refine ⟨⟨⟨by rw [e]; decide, by rw [e]; decide, by rw [e]; decide, by rw [e]; decide, by rw [e]; decide, by rw [e]; decide, by simp [newP]⟩, by rw [e]; decide⟩, by simpa [newP] using h, by simpa [newP] using h2, ?_, by simp [newP], by simp [newP]⟩
  intro y hy
  simp [newP] at hy
  omega

theorem getD_lt {l : List Nat} (h : ∀ y ∈ l, y < 94) (i : Nat) : l.getD i 0 < 94 := by
  rw [List.getD_eq_getElem?_getD]
  by_cases hi : i < l.length
  · rw [List.getElem?_eq_getElem hi]; exact h _ (List.getElem_mem hi)
  · rw [List.getElem?_eq_none (by omega)]; decide

theorem putP_ok {o : Co} (h : Ook o) (k : Int) (bit : Nat) (hm : o.made < 16777216) : Ook (putP o k bit) := by
  refine ⟨codeP_ok h.ok (getD_lt h.cells _) bit, ?_, ?_, ?_, ?_, ?_⟩
  · simpa [putP] using h.pos
  · simpa [putP] using h.lim
  · intro y hy
    simp only [putP] at hy
    rcases List.mem_or_eq_of_mem_set hy with hy | rfl
    · exact h.cells y hy
    · exact codeX_lt _ (getD_lt h.cells _) bit
  · have := codeP_len o.s (o.x.getD (placeOf k o.x.length) 0) bit
    have := h.len
    show (codeP _ _ _).b.length ≤ 16 * (o.made + 1)
    omega
  · show o.made + 1 ≤ 16777216; omega

/-- Flushed. -/
def flushC (c a : Nat) : Nat := if c + a ≤ c ||| 65535 then (c ||| 65535) - 32768 else c ||| 65535
def flush1 (s : Cs) : Cs := outP { s with c := flushC s.c s.a * 2 ^ s.t }
def flush2 (s : Cs) : Cs := outP { flush1 s with c := (flush1 s).c * 2 ^ (flush1 s).t }
def flushP (s : Cs) : List Nat := if (flush2 s).l = 255 then (flush2 s).b.drop 1 else ((flush2 s).b ++ [(flush2 s).l]).drop 1

theorem or_low_le (c : Nat) : c ||| 65535 ≤ c + 65535 := by
  have h := Nat.or_lt_two_pow (x := c % 65536) (y := 65535) (n := 16) (Nat.mod_lt _ (by decide)) (by decide)
  have e : c ||| 65535 = 65536 * (c / 65536) + (c % 65536 ||| 65535) := by
    have hd : (c ||| 65535) / 65536 = c / 65536 := by
      rw [show (65536 : Nat) = 2 ^ 16 from rfl, ← Nat.shiftRight_eq_div_pow, ← Nat.shiftRight_eq_div_pow, Nat.shiftRight_or_distrib]
      simp
    have hm : (c ||| 65535) % 65536 = (c % 65536 ||| 65535) := by
      rw [show (65536 : Nat) = 2 ^ 16 from rfl, Nat.or_mod_two_pow]
    rw [← hd, ← hm]; omega
  omega

theorem flushC_lt {c a : Nat} (ha : 32768 ≤ a) : flushC c a < c + a := by
  have := or_low_le c
  unfold flushC; split <;> omega

end Go.Proofs.YtllhekkclhcdbaaDoor
