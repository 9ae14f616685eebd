/- The coder and the decoder as plain functions, and what stays within bounds. -/
import Derived.WalkKit
import Derived.WalkSpells
import Derived.WalkLawsBesides
namespace Go.Proofs.Ytkggdnkmaldmlab
open Go.RowKit

/-- The table: sizes, next states. -/
def qs : List Nat := [0x5601, 0x3401, 0x1801, 0x0ac1, 0x0521, 0x0221, 0x5601, 0x5401, 0x4801, 0x3801, 0x3001, 0x2401, 0x1c01, 0x1601, 0x5601, 0x5401, 0x5101, 0x4801, 0x3801, 0x3401, 0x3001, 0x2801, 0x2401, 0x2201, 0x1c01, 0x1801, 0x1601, 0x1401, 0x1201, 0x1101, 0x0ac1, 0x09c1, 0x08a1, 0x0521, 0x0441, 0x02a1, 0x0221, 0x0141, 0x0111, 0x0085, 0x0049, 0x0025, 0x0015, 0x0009, 0x0005, 0x0001, 0x5601]
def ms : List Nat := [1, 2, 3, 4, 5, 38, 7, 8, 9, 10, 11, 12, 13, 29, 15, 16, 17, 18, 19, 20, 21, 22, 23, 24, 25, 26, 27, 28, 29, 30, 31, 32, 33, 34, 35, 36, 37, 38, 39, 40, 41, 42, 43, 44, 45, 45, 46]
def ls : List Nat := [1, 6, 9, 12, 29, 33, 6, 14, 14, 14, 17, 18, 20, 21, 14, 14, 15, 16, 17, 18, 19, 19, 20, 21, 22, 23, 24, 25, 26, 27, 28, 29, 30, 31, 32, 33, 34, 35, 36, 37, 38, 39, 40, 41, 42, 43, 46]
def rQ (s : Nat) : Nat := qs.getD s 0
def rM (s : Nat) : Nat := ms.getD s 0
def rL (s : Nat) : Nat := ls.getD s 0
def rS (s : Nat) : Bool := s == 0 || s == 6 || s == 14

theorem rQ_bd : ∀ s, s < 47 → 1 ≤ rQ s ∧ rQ s ≤ 22017 := by decide
theorem rM_bd : ∀ s, s < 47 → rM s < 47 := by decide
theorem rL_bd : ∀ s, s < 47 → rL s < 47 := by decide

/-- A context behind a decision. -/
def learnP (likely : Bool) (x : Nat) : Nat :=
  if likely then 2 * rM (x / 2) + x % 2 else 2 * rL (x / 2) + (if rS (x / 2) then 1 - x % 2 else x % 2)

theorem learnP_lt (k : Bool) (x : Nat) (h : x < 94) : learnP k x < 94 := by
  have h1 := rM_bd (x / 2) (by omega)
  have h2 := rL_bd (x / 2) (by omega)
  unfold learnP
  split
  · omega
  · split <;> omega

/-- The coder's registers, the bytes but the last one, the last one. -/
structure Cs where
  a : Nat
  c : Nat
  t : Nat
  b : List Nat
  l : Nat
deriving DecidableEq

def Cs.bytes (s : Cs) : List Nat := s.b ++ [s.l]

/-- A byte goes out. -/
def outC (c l : Nat) : Nat := if 134217728 ≤ c ∧ l ≠ 255 then c % 134217728 else c
def outL (c l : Nat) : Nat := if 134217728 ≤ c ∧ l ≠ 255 then l + 1 else l
def outLow (l : Nat) : Nat := if l = 255 then 20 else 19
def outT (l : Nat) : Nat := if l = 255 then 7 else 8
def outP (s : Cs) : Cs :=
  { a := s.a, c := outC s.c s.l % 2 ^ outLow (outL s.c s.l), t := outT (outL s.c s.l), b := s.b ++ [outL s.c s.l], l := outC s.c s.l / 2 ^ outLow (outL s.c s.l) % 256 }

def doubled (s : Cs) : Cs :=
  if s.t = 1 then outP { s with a := 2 * s.a, c := 2 * s.c, t := 0 } else { s with a := 2 * s.a, c := 2 * s.c, t := s.t - 1 }

def renewP : Nat → Cs → Cs
  | 0, s => s
  | n + 1, s => if (doubled s).a < 32768 then renewP n (doubled s) else doubled s

/-- Ahead of a decision: what A becomes, what C becomes. -/
def codeS (s : Cs) (q : Nat) (likely : Bool) : Cs :=
  if likely = decide (s.a - q < q) then { s with a := q } else { s with a := s.a - q, c := s.c + q }
def codeP (s : Cs) (x bit : Nat) : Cs :=
  if bit = x % 2 ∧ 32768 ≤ s.a - rQ (x / 2) then { s with a := s.a - rQ (x / 2), c := s.c + rQ (x / 2) }
  else renewP 16 (codeS s (rQ (x / 2)) (decide (bit = x % 2)))
def codeX (s : Cs) (x bit : Nat) : Nat :=
  if bit = x % 2 ∧ 32768 ≤ s.a - rQ (x / 2) then x else learnP (decide (bit = x % 2)) x

/-- What holds while it is renewed. -/
structure Cw (s : Cs) : Prop where
  apos : 1 ≤ s.a
  alt : s.a < 65536
  room : (s.c + s.a) * 2 ^ s.t ≤ 268435456
  tpos : 1 ≤ s.t
  tlt : s.t ≤ 12
  llt : s.l < 256
  blt : ∀ x ∈ s.b, x < 256

theorem Cw.c_lt {s : Cs} (h : Cw s) : s.c + s.a ≤ 134217728 := by
  have h1 := h.room
  have h2 : 2 ^ 1 ≤ 2 ^ s.t := Nat.pow_le_pow_right (by omega) h.tpos
  have h3 := Nat.mul_le_mul_left (s.c + s.a) h2
  omega

theorem outC_lt {c l : Nat} (h : c < 268435456) : outC c l < 268435456 := by
  unfold outC; split <;> omega
theorem outL_lt {c l : Nat} (h : l < 256) : outL c l < 256 := by
  unfold outL; split <;> omega

theorem outP_cw {s : Cs} (h1 : 1 ≤ s.a) (h2 : s.a < 65536) (h4 : s.l < 256) (h5 : ∀ x ∈ s.b, x < 256) : Cw (outP s) := by
  have hl := outL_lt (c := s.c) h4
  refine ⟨h1, h2, ?_, ?_, ?_, ?_, ?_⟩
  · show (outC s.c s.l % 2 ^ outLow (outL s.c s.l) + s.a) * 2 ^ outT (outL s.c s.l) ≤ 268435456
    unfold outLow outT
    split
    · have : outC s.c s.l % 2 ^ 20 < 2 ^ 20 := Nat.mod_lt _ (by decide)
      omega
    · have : outC s.c s.l % 2 ^ 19 < 2 ^ 19 := Nat.mod_lt _ (by decide)
      omega
  · show 1 ≤ outT (outL s.c s.l)
    unfold outT; split <;> omega
  · show outT (outL s.c s.l) ≤ 12
    unfold outT; split <;> omega
  · exact Nat.mod_lt _ (by decide)
  · intro x hx
    simp only [outP, List.mem_append, List.mem_singleton] at hx
    rcases hx with hx | rfl
    · exact h5 x hx
    · exact hl

theorem doubled_cw {s : Cs} (h : Cw s) (ha : s.a < 32768) : Cw (doubled s) := by
  unfold doubled
  split
  · exact outP_cw (by have := h.apos; show 1 ≤ 2 * s.a; omega) (by show 2 * s.a < 65536; omega) h.llt h.blt
  · rename_i ht
    have hp := h.tpos
    refine ⟨?_, ?_, ?_, ?_, ?_, h.llt, h.blt⟩
    · have := h.apos; show 1 ≤ 2 * s.a; omega
    · show 2 * s.a < 65536; omega
    · show (2 * s.c + 2 * s.a) * 2 ^ (s.t - 1) ≤ 268435456
      have h1 := h.room
      obtain ⟨k, hk⟩ : ∃ k, s.t = k + 1 := ⟨s.t - 1, by omega⟩
      rw [hk, Nat.pow_succ] at h1
      rw [hk, Nat.add_sub_cancel, ← Nat.mul_add, Nat.mul_comm 2, Nat.mul_assoc, Nat.mul_comm 2]
      exact h1
    · show 1 ≤ s.t - 1; omega
    · show s.t - 1 ≤ 12; have := h.tlt; omega

theorem doubled_a (s : Cs) : (doubled s).a = 2 * s.a := by unfold doubled; split <;> rfl

theorem renewP_cw : ∀ (n : Nat) (s : Cs), Cw s → s.a < 32768 → 32768 ≤ s.a * 2 ^ n → Cw (renewP n s) ∧ 32768 ≤ (renewP n s).a
  | 0, s, _, ha, hn => by omega
  | n + 1, s, h, ha, hn => by
    have hd := doubled_cw h ha
    unfold renewP
    split
    · rename_i hlt
      refine renewP_cw n (doubled s) hd hlt ?_
      rw [doubled_a, Nat.mul_comm 2, Nat.mul_assoc, Nat.mul_comm 2, ← Nat.pow_succ]; exact hn
    · exact ⟨hd, by omega⟩

/-- What holds ahead of a decision. -/
structure Cok (s : Cs) : Prop where
  cw : Cw s
  half : 32768 ≤ s.a

theorem codeS_cw {s : Cs} (h : Cok s) {q : Nat} (h1 : 1 ≤ q) (h2 : q ≤ 22017) (k : Bool) : Cw (codeS s q k) := by
  have hh := h.half
  have hr := h.cw.room
  unfold codeS
  split
  · refine ⟨h1, by show q < 65536; omega, ?_, h.cw.tpos, h.cw.tlt, h.cw.llt, h.cw.blt⟩
    exact Nat.le_trans (Nat.mul_le_mul_right _ (by show s.c + q ≤ s.c + s.a; omega)) hr
  · refine ⟨by show 1 ≤ s.a - q; omega, by have := h.cw.alt; show s.a - q < 65536; omega, ?_, h.cw.tpos, h.cw.tlt, h.cw.llt, h.cw.blt⟩
    exact Nat.le_trans (Nat.mul_le_mul_right _ (by show s.c + q + (s.a - q) ≤ s.c + s.a; omega)) hr

theorem codeS_a {s : Cs} (h : Cok s) {q : Nat} (h1 : 1 ≤ q) (h2 : q ≤ 22017) (k : Bool) (hk : ¬ (k = true ∧ 32768 ≤ s.a - q)) : (codeS s q k).a < 32768 := by
  have hh := h.half
  unfold codeS
  split
  · show q < 32768; omega
  · rename_i hn
    show s.a - q < 32768
    by_cases hq : s.a - q < q
    · omega
    · cases k
      · simp [hq] at hn
      · simp at hk; omega

theorem codeP_ok {s : Cs} (h : Cok s) {x : Nat} (hx : x < 94) (bit : Nat) : Cok (codeP s x bit) := by
  obtain ⟨h1, h2⟩ := rQ_bd (x / 2) (by omega)
  have hh := h.half
  unfold codeP
  split
  · rename_i hc
    refine ⟨⟨?_, ?_, ?_, h.cw.tpos, h.cw.tlt, h.cw.llt, h.cw.blt⟩, hc.2⟩
    · show 1 ≤ s.a - _; omega
    · have := h.cw.alt; show s.a - _ < 65536; omega
    · exact Nat.le_trans (Nat.mul_le_mul_right _ (by show s.c + _ + (s.a - _) ≤ s.c + s.a; omega)) h.cw.room
  · rename_i hc
    have hw := codeS_cw h h1 h2 (decide (bit = x % 2))
    have ha := codeS_a h h1 h2 (decide (bit = x % 2)) (by rw [decide_eq_true_eq]; exact hc)
    obtain ⟨r1, r2⟩ := renewP_cw 16 _ hw ha (by have := hw.apos; omega)
    exact ⟨r1, r2⟩

theorem codeX_lt (s : Cs) {x : Nat} (hx : x < 94) (bit : Nat) : codeX s x bit < 94 := by
  unfold codeX; split
  · exact hx
  · exact learnP_lt _ _ hx

theorem doubled_len (s : Cs) : (doubled s).b.length ≤ s.b.length + 1 := by
  unfold doubled; split
  · simp [outP]
  · simp
theorem renewP_len : ∀ (n : Nat) (s : Cs), (renewP n s).b.length ≤ s.b.length + n
  | 0, s => by simp [renewP]
  | n + 1, s => by
    have := doubled_len s
    unfold renewP
    split
    · have := renewP_len n (doubled s); omega
    · omega
theorem codeP_len (s : Cs) (x bit : Nat) : (codeP s x bit).b.length ≤ s.b.length + 16 := by
  unfold codeP; split
  · simp
  · have := renewP_len 16 (codeS s (rQ (x / 2)) (decide (bit = x % 2)))
    have h : (codeS s (rQ (x / 2)) (decide (bit = x % 2))).b = s.b := by unfold codeS; split <;> rfl
    rw [h] at this; exact this

/-- A coder: its registers, its contexts, how many decisions were made. -/
structure Co where
  s : Cs
  x : List Nat
  made : Nat

def placeOf (k : Int) (n : Nat) : Nat := (k % (n : Int)).toNat
theorem placeOf_lt (k : Int) {n : Nat} (h : 0 < n) : placeOf k n < n := by
  unfold placeOf
  have h1 := Int.emod_nonneg k (b := (n : Int)) (by omega)
  have h2 := Int.emod_lt_of_pos k (b := (n : Int)) (by omega)
  omega

def newP (n : Nat) : Co := { s := { a := 32768, c := 0, t := 12, b := [], l := 0 }, x := List.replicate n 0, made := 0 }
def putP (o : Co) (k : Int) (bit : Nat) : Co :=
  { s := codeP o.s (o.x.getD (placeOf k o.x.length) 0) bit, x := o.x.set (placeOf k o.x.length) (codeX o.s (o.x.getD (placeOf k o.x.length) 0) bit), made := o.made + 1 }

structure Ook (o : Co) : Prop where
  ok : Cok o.s
  pos : 0 < o.x.length
  lim : o.x.length ≤ 131072
  cells : ∀ y ∈ o.x, y < 94
  len : o.s.b.length ≤ 16 * o.made
  made : o.made ≤ 16777216

theorem newP_ok {n : Nat} (h : 0 < n) (h2 : n ≤ 131072) : Ook (newP n) := by
  have e : (newP n).s = { a := 32768, c := 0, t := 12, b := [], l := 0 } := rfl
  refine ⟨⟨⟨by rw [e]; decide, by rw [e]; decide, by rw [e]; decide, by rw [e]; decide, by rw [e]; decide, by rw [e]; decide, by simp [newP]⟩, by rw [e]; decide⟩, by simpa [newP] using h, by simpa [newP] using h2, ?_, by simp [newP], by simp [newP]⟩
  intro y hy
  simp [newP] at hy
  omega

theorem getD_lt {l : List Nat} (h : ∀ y ∈ l, y < 94) (i : Nat) : l.getD i 0 < 94 := by
  rw [List.getD_eq_getElem?_getD]
  by_cases hi : i < l.length
  · rw [List.getElem?_eq_getElem hi]; exact h _ (List.getElem_mem hi)
  · rw [List.getElem?_eq_none (by omega)]; decide

theorem putP_ok {o : Co} (h : Ook o) (k : Int) (bit : Nat) (hm : o.made < 16777216) : Ook (putP o k bit) := by
  refine ⟨codeP_ok h.ok (getD_lt h.cells _) bit, ?_, ?_, ?_, ?_, ?_⟩
  · simpa [putP] using h.pos
  · simpa [putP] using h.lim
  · intro y hy
    simp only [putP] at hy
    rcases List.mem_or_eq_of_mem_set hy with hy | rfl
    · exact h.cells y hy
    · exact codeX_lt _ (getD_lt h.cells _) bit
  · have := codeP_len o.s (o.x.getD (placeOf k o.x.length) 0) bit
    have := h.len
    show (codeP _ _ _).b.length ≤ 16 * (o.made + 1)
    omega
  · show o.made + 1 ≤ 16777216; omega

/-- Flushed. -/
def flushC (c a : Nat) : Nat := if c + a ≤ c ||| 65535 then (c ||| 65535) - 32768 else c ||| 65535
def flush1 (s : Cs) : Cs := outP { s with c := flushC s.c s.a * 2 ^ s.t }
def flush2 (s : Cs) : Cs := outP { flush1 s with c := (flush1 s).c * 2 ^ (flush1 s).t }
def flushP (s : Cs) : List Nat := if (flush2 s).l = 255 then (flush2 s).b.drop 1 else ((flush2 s).b ++ [(flush2 s).l]).drop 1

theorem or_low_le (c : Nat) : c ||| 65535 ≤ c + 65535 := by
  have h := Nat.or_lt_two_pow (x := c % 65536) (y := 65535) (n := 16) (Nat.mod_lt _ (by decide)) (by decide)
  have e : c ||| 65535 = 65536 * (c / 65536) + (c % 65536 ||| 65535) := by
    have hd : (c ||| 65535) / 65536 = c / 65536 := by
      rw [show (65536 : Nat) = 2 ^ 16 from rfl, ← Nat.shiftRight_eq_div_pow, ← Nat.shiftRight_eq_div_pow, Nat.shiftRight_or_distrib]
      simp
    have hm : (c ||| 65535) % 65536 = (c % 65536 ||| 65535) := by
      rw [show (65536 : Nat) = 2 ^ 16 from rfl, Nat.or_mod_two_pow]
    rw [← hd, ← hm]; omega
  omega

theorem flushC_lt {c a : Nat} (ha : 32768 ≤ a) : flushC c a < c + a := by
  have := or_low_le c
  unfold flushC; split <;> omega

end Go.Proofs.Ytkggdnkmaldmlab

/- What a coder's bytes say of the intervals that it went through. -/
namespace Go.Proofs.Ytkggdnkmaldmlab

/-- The number that bytes F with shifts h say, up to byte j. -/
def Zv (F h : Nat → Nat) : Nat → Nat
  | 0 => F 0
  | j + 1 => Zv F h j * 2 ^ h j + F (j + 1)
/-- The same without byte j itself. -/
def Yv (F h : Nat → Nat) : Nat → Nat
  | 0 => 0
  | j + 1 => Zv F h j * 2 ^ h j
theorem Zv_eq (F h : Nat → Nat) : ∀ j, Zv F h j = Yv F h j + F j
  | 0 => by simp [Zv, Yv]
  | j + 1 => rfl
/-- Shifts from byte n on. -/
def Sv (h : Nat → Nat) (n : Nat) : Nat → Nat
  | 0 => 0
  | r + 1 => Sv h n r + h (n + r)
theorem Sv_front (h : Nat → Nat) (n : Nat) : ∀ r, Sv h n (r + 1) = h n + Sv h (n + 1) r
  | 0 => by simp [Sv]
  | r + 1 => by
    show Sv h n (r + 1) + h (n + (r + 1)) = h n + (Sv h (n + 1) r + h (n + 1 + r))
    rw [Sv_front h n r, show n + (r + 1) = n + 1 + r by omega]; omega

/-- The number at which a coder stands. -/
def baseV (F h : Nat → Nat) (s : Cs) : Nat := (Yv F h s.b.length + s.l) * 2 ^ (27 - s.t) + s.c

structure Good (F h : Nat → Nat) (M : Nat) (s : Cs) : Prop where
  ext : ∀ i, i < s.b.length → F i = s.b.getD i 0
  last : s.l ≤ F s.b.length
  le : s.b.length ≤ M
  low : ∀ r, 1 ≤ r → baseV F h s * 2 ^ (s.t + Sv h s.b.length r) < (Zv F h (s.b.length + r) + 1) * 2 ^ 27
  up : ∀ r, 1 ≤ r → Zv F h (s.b.length + r) * 2 ^ 27 < (baseV F h s + s.a) * 2 ^ (s.t + Sv h s.b.length r)

/-- A decision. -/
theorem Good.shrink {F h : Nat → Nat} {M : Nat} {s s' : Cs} (g : Good F h M s') (hb : s'.b = s.b) (hl : s'.l = s.l) (ht : s'.t = s.t) (h1 : s.c ≤ s'.c) (h2 : s'.c + s'.a ≤ s.c + s.a) : Good F h M s := by
  have e1 : baseV F h s ≤ baseV F h s' := by unfold baseV; rw [hb, hl, ht]; omega
  have e2 : baseV F h s' + s'.a ≤ baseV F h s + s.a := by unfold baseV; rw [hb, hl, ht]; omega
  refine ⟨by rw [← hb]; exact g.ext, by rw [← hb, ← hl]; exact g.last, by rw [← hb]; exact g.le, fun r hr => ?_, fun r hr => ?_⟩
  · have := g.low r hr
    rw [hb, ht] at this
    exact Nat.lt_of_le_of_lt (Nat.mul_le_mul_right _ e1) this
  · have := g.up r hr
    rw [hb, ht] at this
    exact Nat.lt_of_lt_of_le this (Nat.mul_le_mul_right _ e2)

/-- Doublings without a byte. -/
theorem Good.shift {F h : Nat → Nat} {M : Nat} {s s' : Cs} (k : Nat) (g : Good F h M s') (hb : s'.b = s.b) (hl : s'.l = s.l) (ht : s.t = s'.t + k) (ht2 : s.t ≤ 27) (hc : s'.c = s.c * 2 ^ k) (ha : s'.a = s.a * 2 ^ k) : Good F h M s := by
  have e1 : baseV F h s' = baseV F h s * 2 ^ k := by
    unfold baseV
    rw [hb, hl, hc]
    generalize Yv F h s.b.length + s.l = V
    rw [show 27 - s'.t = 27 - s.t + k by omega, Nat.pow_add, Nat.add_mul, Nat.mul_assoc]
  refine ⟨by rw [← hb]; exact g.ext, by rw [← hb, ← hl]; exact g.last, by rw [← hb]; exact g.le, fun r hr => ?_, fun r hr => ?_⟩
  · have := g.low r hr
    rw [hb, e1, Nat.mul_assoc, ← Nat.pow_add, show k + (s'.t + Sv h s.b.length r) = s.t + Sv h s.b.length r by omega] at this
    exact this
  · have := g.up r hr
    rw [hb, e1, ha, ← Nat.add_mul, Nat.mul_assoc, ← Nat.pow_add, show k + (s'.t + Sv h s.b.length r) = s.t + Sv h s.b.length r by omega] at this
    exact this

theorem outL_ge (c l : Nat) : l ≤ outL c l := by unfold outL; split <;> omega
theorem outT_low (l : Nat) : outT l + outLow l = 27 := by unfold outT outLow; split <;> rfl
theorem outT_bd (l : Nat) : 7 ≤ outT l ∧ outT l ≤ 8 := by unfold outT; split <;> omega
theorem out_carry_eq (c l Y : Nat) (hc : c < 268435456) : (Y + l) * 2 ^ 27 + c = (Y + outL c l) * 2 ^ 27 + outC c l := by
  have e : (2 : Nat) ^ 27 = 134217728 := rfl
  unfold outL outC
  rw [e]
  split
  · rename_i h
    have := h.1
    omega
  · rfl
theorem out_byte_lt (c l : Nat) (hc : c < 268435456) : outC c l / 2 ^ outLow (outL c l) < 256 := by
  unfold outC outL outLow
  by_cases h : 134217728 ≤ c ∧ l ≠ 255
  · rw [if_pos h, if_pos h]
    split
    · omega
    · omega
  · rw [if_neg h, if_neg h]
    split
    · omega
    · rename_i hl
      have : c < 134217728 := by omega
      omega

theorem Good.out_base {F h : Nat → Nat} {M : Nat} {s : Cs} (hh : ∀ i, i < M → h i = outT (F i)) (g : Good F h M (outP s)) (ht : s.t = 0) (hc : s.c < 268435456) (hM : s.b.length < M) : baseV F h (outP s) = baseV F h s ∧ h s.b.length = (outP s).t := by
  have hbl : (outP s).b.length = s.b.length + 1 := by simp [outP]
  obtain ⟨N, hN⟩ : ∃ N, N = s.b.length := ⟨_, rfl⟩
  have hFN : F N = outL s.c s.l := by
    have := g.ext N (by rw [hbl]; omega)
    rw [this]
    show (s.b ++ [_]).getD N 0 = _
    rw [List.getD_eq_getElem?_getD, List.getElem?_append_right (by omega), hN, Nat.sub_self]; rfl
  have hhN : h N = outT (outL s.c s.l) := by rw [hh N (by omega), hFN]
  obtain ⟨T, hT⟩ : ∃ T, T = outT (outL s.c s.l) := ⟨_, rfl⟩
  obtain ⟨t7, t8⟩ := outT_bd (outL s.c s.l)
  have hlow : outLow (outL s.c s.l) = 27 - T := by have := outT_low (outL s.c s.l); omega
  rw [← hT] at t7 t8 hhN
  have hYN : Yv F h (N + 1) = (Yv F h N + outL s.c s.l) * 2 ^ T := by
    show Zv F h N * 2 ^ h N = _
    rw [Zv_eq, hFN, hhN]
  have hxl : outC s.c s.l / 2 ^ (27 - T) < 256 := by have := out_byte_lt s.c s.l hc; rw [hlow] at this; exact this
  have el : (outP s).l = outC s.c s.l / 2 ^ (27 - T) := by
    show outC s.c s.l / 2 ^ outLow (outL s.c s.l) % 256 = _
    rw [hlow, Nat.mod_eq_of_lt hxl]
  have ec : (outP s).c = outC s.c s.l % 2 ^ (27 - T) := by show outC s.c s.l % 2 ^ outLow (outL s.c s.l) = _; rw [hlow]
  have et : (outP s).t = T := hT.symm
  have e1 : baseV F h (outP s) = baseV F h s := by
    unfold baseV
    rw [hbl, el, ec, et, ht, ← hN, hYN, Nat.add_mul, Nat.mul_assoc, ← Nat.pow_add, show T + (27 - T) = 27 by omega, show 27 - 0 = 27 from rfl, out_carry_eq s.c s.l (Yv F h N) hc, Nat.add_assoc]
    congr 1
    rw [Nat.mul_comm]; exact Nat.div_add_mod _ _
  exact ⟨e1, by rw [← hN, hhN, et]⟩

/-- A byte goes out. -/
theorem Good.out {F h : Nat → Nat} {M : Nat} {s : Cs} (hh : ∀ i, i < M → h i = outT (F i)) (g : Good F h M (outP s)) (ht : s.t = 0) (hc : s.c < 268435456) (hM : s.b.length < M) : Good F h M s := by
  have hbl : (outP s).b.length = s.b.length + 1 := by simp [outP]
  obtain ⟨N, hN⟩ : ∃ N, N = s.b.length := ⟨_, rfl⟩
  have hFN : F N = outL s.c s.l := by
    have := g.ext N (by rw [hbl]; omega)
    rw [this]
    show (s.b ++ [_]).getD N 0 = _
    rw [List.getD_eq_getElem?_getD, List.getElem?_append_right (by omega), hN, Nat.sub_self]; rfl
  have hhN : h N = outT (outL s.c s.l) := by rw [hh N (by omega), hFN]
  obtain ⟨T, hT⟩ : ∃ T, T = outT (outL s.c s.l) := ⟨_, rfl⟩
  obtain ⟨t7, t8⟩ := outT_bd (outL s.c s.l)
  have hlow : outLow (outL s.c s.l) = 27 - T := by have := outT_low (outL s.c s.l); omega
  rw [← hT] at t7 t8 hhN
  have hYN : Yv F h (N + 1) = (Yv F h N + outL s.c s.l) * 2 ^ T := by
    show Zv F h N * 2 ^ h N = _
    rw [Zv_eq, hFN, hhN]
  have hxl : outC s.c s.l / 2 ^ (27 - T) < 256 := by have := out_byte_lt s.c s.l hc; rw [hlow] at this; exact this
  have el : (outP s).l = outC s.c s.l / 2 ^ (27 - T) := by
    show outC s.c s.l / 2 ^ outLow (outL s.c s.l) % 256 = _
    rw [hlow, Nat.mod_eq_of_lt hxl]
  have ec : (outP s).c = outC s.c s.l % 2 ^ (27 - T) := by show outC s.c s.l % 2 ^ outLow (outL s.c s.l) = _; rw [hlow]
  have et : (outP s).t = T := hT.symm
  have e1 : baseV F h (outP s) = baseV F h s := by
    unfold baseV
    rw [hbl, el, ec, et, ht, ← hN, hYN, Nat.add_mul, Nat.mul_assoc, ← Nat.pow_add, show T + (27 - T) = 27 by omega, show 27 - 0 = 27 from rfl, out_carry_eq s.c s.l (Yv F h N) hc, Nat.add_assoc]
    congr 1
    rw [Nat.mul_comm]; exact Nat.div_add_mod _ _
  have hlow1 : baseV F h s * 2 ^ (0 + Sv h N 1) < (Zv F h (N + 1) + 1) * 2 ^ 27 := by
    have hS : Sv h N 1 = T := by show Sv h N 0 + h (N + 0) = T; rw [Nat.add_zero, hhN]; show 0 + T = T; omega
    rw [Nat.zero_add, hS, ← e1]
    unfold baseV
    rw [et, hbl, ← hN, ec]
    have hlast := g.last
    rw [hbl, ← hN] at hlast
    have hz : Yv F h (N + 1) + (outP s).l + 1 ≤ Zv F h (N + 1) + 1 := by rw [Zv_eq]; omega
    have hm : outC s.c s.l % 2 ^ (27 - T) < 2 ^ (27 - T) := Nat.mod_lt _ (Nat.two_pow_pos _)
    have hk : ((Yv F h (N + 1) + (outP s).l) * 2 ^ (27 - T) + outC s.c s.l % 2 ^ (27 - T)) < (Yv F h (N + 1) + (outP s).l + 1) * 2 ^ (27 - T) := by
      rw [Nat.add_mul _ 1, Nat.one_mul]; omega
    refine Nat.lt_of_lt_of_le (Nat.mul_lt_mul_of_pos_right hk (Nat.two_pow_pos T)) ?_
    rw [Nat.mul_assoc, ← Nat.pow_add, show 27 - T + T = 27 by omega]
    exact Nat.mul_le_mul_right _ hz
  have hup : ∀ r, 1 ≤ r → Zv F h (N + 1 + r) * 2 ^ 27 < (baseV F h s + s.a) * 2 ^ (0 + Sv h N (r + 1)) := by
    intro r hr
    have := g.up r hr
    rw [hbl, ← hN, e1, et] at this
    rw [Sv_front, hhN, Nat.zero_add]
    exact this
  refine ⟨fun i hi => ?_, ?_, by omega, fun r hr => ?_, fun r hr => ?_⟩
  · rw [g.ext i (by rw [hbl]; omega)]
    show (s.b ++ [_]).getD i 0 = _
    rw [List.getD_eq_getElem?_getD, List.getElem?_append_left hi, ← List.getD_eq_getElem?_getD]
  · rw [← hN, hFN]; exact outL_ge _ _
  · rw [ht, ← hN]
    cases r with
    | zero => omega
    | succ r =>
      cases r with
      | zero => exact hlow1
      | succ r =>
        have := g.low (r + 1) (by omega)
        rw [hbl, ← hN, e1, et] at this
        rw [Sv_front, hhN, Nat.zero_add, show N + (r + 1 + 1) = N + 1 + (r + 1) by omega]
        exact this
  · rw [ht, ← hN]
    cases r with
    | zero => omega
    | succ r =>
      cases r with
      | zero =>
        have := hup 1 (Nat.le_refl _)
        have e3 : Sv h N (1 + 1) = Sv h N (0 + 1) + h (N + 1) := rfl
        have e4 : Zv F h (N + 1 + 1) = Zv F h (N + 1) * 2 ^ h (N + 1) + F (N + 1 + 1) := rfl
        rw [e3, e4, ← Nat.add_assoc, Nat.pow_add, ← Nat.mul_assoc] at this
        have h5 : Zv F h (N + (0 + 1)) * 2 ^ 27 * 2 ^ h (N + 1) ≤ (Zv F h (N + 1) * 2 ^ h (N + 1) + F (N + 1 + 1)) * 2 ^ 27 := by
          rw [Nat.mul_assoc, Nat.mul_comm (2 ^ 27), ← Nat.mul_assoc]
          exact Nat.mul_le_mul_right _ (Nat.le_add_right _ _)
        exact Nat.lt_of_mul_lt_mul_right (Nat.lt_of_le_of_lt h5 this)
      | succ r =>
        have := hup (r + 1) (by omega)
        rw [show N + (r + 1 + 1) = N + 1 + (r + 1) by omega]
        exact this

end Go.Proofs.Ytkggdnkmaldmlab

/- The decoder as plain functions. -/
namespace Go.Proofs.Ytkggdnkmaldmlab
open Go.RowKit

structure Ds where
  a : Nat
  c : Nat
  t : Nat
  p : Nat
deriving DecidableEq

def byteD (B : List Nat) (i : Nat) : Nat := B.getD i 255
/-- A byte comes in. -/
def inD (B : List Nat) (s : Ds) : Ds :=
  if byteD B s.p ≠ 255 then { a := s.a, c := (s.c + byteD B (s.p + 1) * 256) % 4294967296, t := 8, p := s.p + 1 }
  else if 143 < byteD B (s.p + 1) then { a := s.a, c := (s.c + 65280) % 4294967296, t := 8, p := s.p }
  else { a := s.a, c := (s.c + byteD B (s.p + 1) * 512) % 4294967296, t := 7, p := s.p + 1 }
def inZ (B : List Nat) (s : Ds) : Ds := if s.t = 0 then inD B s else s
def twice (s : Ds) : Ds := { a := 2 * s.a, c := 2 * s.c % 4294967296, t := s.t - 1, p := s.p }
def doubledD (B : List Nat) (s : Ds) : Ds := twice (inZ B s)
def renewD (B : List Nat) : Nat → Ds → Ds
  | 0, s => s
  | n + 1, s => if (doubledD B s).a < 32768 then renewD B n (doubledD B s) else doubledD B s

def decS (s : Ds) (q : Nat) : Ds := if s.c / 65536 < q then { s with a := q } else { s with a := s.a - q, c := s.c - q * 65536 }
def decStay (s : Ds) (q : Nat) : Prop := ¬ (s.c / 65536 < q) ∧ 32768 ≤ s.a - q
instance (s : Ds) (q : Nat) : Decidable (decStay s q) := inferInstanceAs (Decidable (_ ∧ _))
def decLikely (s : Ds) (q : Nat) : Bool := decide (s.c / 65536 < q) == decide (s.a - q < q)
def decP (B : List Nat) (s : Ds) (x : Nat) : Ds := if decStay s (rQ (x / 2)) then decS s (rQ (x / 2)) else renewD B 16 (decS s (rQ (x / 2)))
def decX (s : Ds) (x : Nat) : Nat := if decStay s (rQ (x / 2)) then x else learnP (decLikely s (rQ (x / 2))) x
def decBit (s : Ds) (x : Nat) : Nat := if decStay s (rQ (x / 2)) then x % 2 else if decLikely s (rQ (x / 2)) then x % 2 else 1 - x % 2

theorem decBit_lt (s : Ds) (x : Nat) : decBit s x < 2 := by
  unfold decBit
  split
  · omega
  · split <;> omega

/-- What holds while it is renewed. -/
structure Dw (B : List Nat) (s : Ds) : Prop where
  apos : 1 ≤ s.a
  alt : s.a < 65536
  clt : s.c < 4294967296
  tlt : s.t ≤ 8
  plt : s.p ≤ B.length

theorem byteD_lt {B : List Nat} (hB : ∀ y ∈ B, y < 256) (i : Nat) : byteD B i < 256 := by
  unfold byteD
  rw [List.getD_eq_getElem?_getD]
  by_cases hi : i < B.length
  · rw [List.getElem?_eq_getElem hi]; exact hB _ (List.getElem_mem hi)
  · rw [List.getElem?_eq_none (by omega)]; decide
theorem byteD_past {B : List Nat} {i : Nat} (h : B.length ≤ i) : byteD B i = 255 := by
  unfold byteD
  rw [List.getD_eq_getElem?_getD, List.getElem?_eq_none h]; rfl

theorem inD_dw {B : List Nat} {s : Ds} (h : Dw B s) : Dw B (inD B s) ∧ (inD B s).a = s.a ∧ 7 ≤ (inD B s).t := by
  unfold inD
  split
  · rename_i hb
    refine ⟨⟨h.apos, h.alt, Nat.mod_lt _ (by decide), Nat.le_refl 8, ?_⟩, rfl, by show 7 ≤ 8; decide⟩
    show s.p + 1 ≤ B.length
    by_cases hp : s.p < B.length
    · omega
    · exact absurd (byteD_past (by omega)) hb
  · split
    · exact ⟨⟨h.apos, h.alt, Nat.mod_lt _ (by decide), Nat.le_refl 8, h.plt⟩, rfl, by show 7 ≤ 8; decide⟩
    · rename_i hn
      refine ⟨⟨h.apos, h.alt, Nat.mod_lt _ (by decide), by show 7 ≤ 8; decide, ?_⟩, rfl, by show 7 ≤ 7; decide⟩
      show s.p + 1 ≤ B.length
      by_cases hp : s.p + 1 < B.length
      · omega
      · exfalso; exact hn (by rw [byteD_past (by omega)]; decide)

theorem inZ_dw {B : List Nat} {s : Ds} (h : Dw B s) : Dw B (inZ B s) ∧ (inZ B s).a = s.a ∧ 1 ≤ (inZ B s).t := by
  unfold inZ
  split
  · have := inD_dw h
    exact ⟨this.1, this.2.1, by omega⟩
  · exact ⟨h, rfl, by omega⟩

theorem doubledD_dw {B : List Nat} {s : Ds} (h : Dw B s) (ha : s.a < 32768) : Dw B (doubledD B s) ∧ (doubledD B s).a = 2 * s.a := by
  obtain ⟨h1, h2, h3⟩ := inZ_dw h
  have h4 := h.apos
  have h5 := h1.tlt
  refine ⟨⟨?_, ?_, Nat.mod_lt _ (by decide), ?_, h1.plt⟩, ?_⟩
  · show 1 ≤ 2 * _; omega
  · show 2 * _ < 65536; omega
  · show _ - 1 ≤ 8; omega
  · show 2 * _ = 2 * _; rw [h2]

theorem renewD_dw {B : List Nat} : ∀ (n : Nat) (s : Ds), Dw B s → s.a < 32768 → 32768 ≤ s.a * 2 ^ n → Dw B (renewD B n s) ∧ 32768 ≤ (renewD B n s).a
  | 0, s, _, ha, hn => by omega
  | n + 1, s, h, ha, hn => by
    obtain ⟨hd, hda⟩ := doubledD_dw h ha
    unfold renewD
    split
    · rename_i hlt
      refine renewD_dw n _ hd hlt ?_
      rw [hda, Nat.mul_comm 2, Nat.mul_assoc, Nat.mul_comm 2, ← Nat.pow_succ]; exact hn
    · exact ⟨hd, by omega⟩

/-- What holds ahead of a decision. -/
structure Dok (B : List Nat) (s : Ds) : Prop where
  dw : Dw B s
  half : 32768 ≤ s.a

theorem decS_dw {B : List Nat} {s : Ds} (h : Dok B s) {q : Nat} (h1 : 1 ≤ q) (h2 : q ≤ 22017) : Dw B (decS s q) := by
  have hh := h.half
  unfold decS
  split
  · exact ⟨h1, by show q < 65536; omega, h.dw.clt, h.dw.tlt, h.dw.plt⟩
  · exact ⟨by show 1 ≤ s.a - q; omega, by have := h.dw.alt; show s.a - q < 65536; omega, by have := h.dw.clt; show s.c - _ < _; omega, h.dw.tlt, h.dw.plt⟩
theorem decS_a {B : List Nat} {s : Ds} (h : Dok B s) {q : Nat} (h2 : q ≤ 22017) (hs : ¬ decStay s q) : (decS s q).a < 32768 := by
  have hh := h.half
  unfold decStay at hs
  unfold decS
  split
  · show q < 32768; omega
  · show s.a - q < 32768; omega

theorem decP_ok {B : List Nat} {s : Ds} (h : Dok B s) {x : Nat} (hx : x < 94) : Dok B (decP B s x) := by
  obtain ⟨h1, h2⟩ := rQ_bd (x / 2) (by omega)
  have hw := decS_dw h h1 h2
  unfold decP
  split
  · rename_i hs
    refine ⟨hw, ?_⟩
    rw [decS, if_neg hs.1]; exact hs.2
  · rename_i hs
    obtain ⟨r1, r2⟩ := renewD_dw 16 _ hw (decS_a h h2 hs) (by have := hw.apos; omega)
    exact ⟨r1, r2⟩
theorem decX_lt (s : Ds) {x : Nat} (hx : x < 94) : decX s x < 94 := by
  unfold decX; split
  · exact hx
  · exact learnP_lt _ _ hx

/-- A decoder: its registers, its contexts, how many decisions were made. -/
structure De where
  s : Ds
  x : List Nat
  made : Nat

def newDs (B : List Nat) : Ds :=
  { inD B { a := 32768, c := byteD B 0 * 65536, t := 0, p := 0 } with
    c := (inD B { a := 32768, c := byteD B 0 * 65536, t := 0, p := 0 }).c * 128 % 4294967296, t := (inD B { a := 32768, c := byteD B 0 * 65536, t := 0, p := 0 }).t - 7 }
def newD (B : List Nat) (n : Nat) : De := { s := newDs B, x := List.replicate n 0, made := 0 }
def getP (B : List Nat) (o : De) (k : Int) : De :=
  { s := decP B o.s (o.x.getD (placeOf k o.x.length) 0), x := o.x.set (placeOf k o.x.length) (decX o.s (o.x.getD (placeOf k o.x.length) 0)), made := o.made + 1 }
def getBit (o : De) (k : Int) : Nat := decBit o.s (o.x.getD (placeOf k o.x.length) 0)

structure Eok (B : List Nat) (o : De) : Prop where
  ok : Dok B o.s
  pos : 0 < o.x.length
  lim : o.x.length ≤ 131072
  cells : ∀ y ∈ o.x, y < 94
  made : o.made ≤ 16777216
  bytes : ∀ y ∈ B, y < 256

theorem newDs_ok (B : List Nat) (hB : ∀ y ∈ B, y < 256) : Dok B (newDs B) := by
  have h0 : Dw B { a := 32768, c := byteD B 0 * 65536, t := 0, p := 0 } := by
    have := byteD_lt hB 0
    exact ⟨by show 1 ≤ 32768; decide, by show 32768 < 65536; decide, by show byteD B 0 * 65536 < _; omega, Nat.zero_le _, Nat.zero_le _⟩
  obtain ⟨h1, h2, h3⟩ := inD_dw h0
  have h4 := h1.tlt
  exact ⟨⟨h1.apos, h1.alt, Nat.mod_lt _ (by decide), by show _ - 7 ≤ 8; omega, h1.plt⟩, by show 32768 ≤ (inD B _).a; rw [h2]; exact Nat.le_refl _⟩
theorem newD_ok {B : List Nat} {n : Nat} (h : 0 < n) (h2 : n ≤ 131072) (hB : ∀ y ∈ B, y < 256) : Eok B (newD B n) := by
  refine ⟨newDs_ok B hB, by simpa [newD] using h, by simpa [newD] using h2, ?_, by simp [newD], hB⟩
  intro y hy
  simp [newD] at hy
  omega
theorem getP_ok {B : List Nat} {o : De} (h : Eok B o) (k : Int) (hm : o.made < 16777216) : Eok B (getP B o k) := by
  refine ⟨decP_ok h.ok (getD_lt h.cells _), ?_, ?_, ?_, ?_, h.bytes⟩
  · simpa [getP] using h.pos
  · simpa [getP] using h.lim
  · intro y hy
    simp only [getP] at hy
    rcases List.mem_or_eq_of_mem_set hy with hy | rfl
    · exact h.cells y hy
    · exact decX_lt _ (getD_lt h.cells _)
  · show o.made + 1 ≤ 16777216; omega

end Go.Proofs.Ytkggdnkmaldmlab

/- What a coder's bytes say: through decisions, renewals and the flush. -/
namespace Go.Proofs.Ytkggdnkmaldmlab

theorem Good.doubled {F h : Nat → Nat} {M : Nat} {s : Cs} (hh : ∀ i, i < M → h i = outT (F i)) (hw : Cw s) (g : Good F h M (doubled s)) :
    Good F h M s ∧ baseV F h (doubled s) = 2 * baseV F h s ∧ (s.t = 1 → (doubled s).b.length = s.b.length + 1 ∧ (doubled s).t = h s.b.length) ∧ (s.t ≠ 1 → (doubled s).b.length = s.b.length ∧ (doubled s).t = s.t - 1) := by
  have h1 := hw.c_lt
  have h2 := hw.apos
  have h3 := hw.tpos
  have h4 := hw.tlt
  by_cases ht : s.t = 1
  · have e : Go.Proofs.Ytkggdnkmaldmlab.doubled s = outP { s with a := 2 * s.a, c := 2 * s.c, t := 0 } := by simp [Go.Proofs.Ytkggdnkmaldmlab.doubled, ht]
    rw [e] at g ⊢
    have hbl : (outP { s with a := 2 * s.a, c := 2 * s.c, t := 0 }).b.length = s.b.length + 1 := by simp [outP]
    have hM : s.b.length < M := by have := g.le; rw [hbl] at this; omega
    obtain ⟨b1, b2⟩ := g.out_base hh rfl (by show 2 * s.c < _; omega) hM
    have g2 := g.out hh rfl (by show 2 * s.c < _; omega) hM
    have hb : baseV F h { s with a := 2 * s.a, c := 2 * s.c, t := 0 } = 2 * baseV F h s := by
      unfold baseV
      rw [ht]
      simp only []
      generalize Yv F h s.b.length + s.l = V
      rw [show 27 - 0 = (27 - 1) + 1 from rfl, Nat.pow_succ]; omega
    refine ⟨g2.shift 1 rfl rfl (by rw [ht]) (by omega) (by show 2 * s.c = _; omega) (by show 2 * s.a = _; omega), by rw [b1, hb], fun _ => ⟨hbl, b2.symm⟩, fun hn => absurd ht hn⟩
  · have e : Go.Proofs.Ytkggdnkmaldmlab.doubled s = { s with a := 2 * s.a, c := 2 * s.c, t := s.t - 1 } := by simp [Go.Proofs.Ytkggdnkmaldmlab.doubled, ht]
    rw [e] at g ⊢
    have hb : baseV F h { s with a := 2 * s.a, c := 2 * s.c, t := s.t - 1 } = 2 * baseV F h s := by
      unfold baseV
      simp only []
      generalize Yv F h s.b.length + s.l = V
      rw [show 27 - (s.t - 1) = (27 - s.t) + 1 by omega, Nat.pow_succ, Nat.mul_add, ← Nat.mul_assoc, Nat.mul_comm (V * 2 ^ (27 - s.t)) 2]
    exact ⟨g.shift 1 rfl rfl (by show s.t = s.t - 1 + 1; omega) (by omega) (by show 2 * s.c = _; omega) (by show 2 * s.a = _; omega), hb, fun hn => absurd hn ht, fun _ => ⟨rfl, rfl⟩⟩

theorem Good.renew {F h : Nat → Nat} {M : Nat} (hh : ∀ i, i < M → h i = outT (F i)) : ∀ (n : Nat) (s : Cs), Cw s → s.a < 32768 → 32768 ≤ s.a * 2 ^ n → Good F h M (renewP n s) → Good F h M (Go.Proofs.Ytkggdnkmaldmlab.doubled s) ∧ Good F h M s
  | 0, s, _, ha, hn, _ => by omega
  | n + 1, s, hw, ha, hn, g => by
    have hd := doubled_cw hw ha
    have gd : Good F h M (Go.Proofs.Ytkggdnkmaldmlab.doubled s) := by
      unfold renewP at g
      split at g
      · rename_i hlt
        refine (Good.renew hh n _ hd hlt ?_ g).2
        rw [doubled_a, Nat.mul_comm 2, Nat.mul_assoc, Nat.mul_comm 2, ← Nat.pow_succ]; exact hn
      · exact g
    exact ⟨gd, (gd.doubled hh hw).1⟩

theorem Good.code {F h : Nat → Nat} {M : Nat} {s : Cs} (hh : ∀ i, i < M → h i = outT (F i)) (hok : Cok s) {x : Nat} (hx : x < 94) (bit : Nat) (g : Good F h M (codeP s x bit)) : Good F h M s := by
  obtain ⟨q1, q2⟩ := rQ_bd (x / 2) (by omega)
  have hha := hok.half
  unfold codeP at g
  split at g
  · exact g.shrink rfl rfl rfl (by show s.c ≤ s.c + _; omega) (by show s.c + _ + (s.a - _) ≤ s.c + s.a; omega)
  · rename_i hc
    have hw := codeS_cw hok q1 q2 (decide (bit = x % 2))
    have ha := codeS_a hok q1 q2 (decide (bit = x % 2)) (by rw [decide_eq_true_eq]; exact hc)
    have gs := (Good.renew hh 16 _ hw ha (by have := hw.apos; omega) g).2
    unfold codeS at gs
    split at gs
    · exact gs.shrink rfl rfl rfl (Nat.le_refl _) (by show s.c + rQ (x / 2) ≤ s.c + s.a; omega)
    · exact gs.shrink rfl rfl rfl (by show s.c ≤ s.c + _; omega) (by show s.c + _ + (s.a - _) ≤ s.c + s.a; omega)

/-- No byte above 8f behind an ff. -/
structure Wb (s : Cs) : Prop where
  room : (s.c + s.a) * 2 ^ s.t < 150994944
  pairs : ∀ i, i + 1 < s.b.length → s.b.getD i 0 = 255 → s.b.getD (i + 1) 0 ≤ 143
  top : ∀ i, i + 1 = s.b.length → s.b.getD i 0 = 255 → s.l * 2 ^ (27 - s.t) + s.c + s.a ≤ 144 * 2 ^ (27 - s.t)

theorem Wb.shrink {s s' : Cs} (g : Wb s) (hb : s'.b = s.b) (hl : s'.l = s.l) (ht : s'.t = s.t) (h2 : s'.c + s'.a ≤ s.c + s.a) : Wb s' := by
  refine ⟨?_, by rw [hb]; exact g.pairs, fun i hi h => ?_⟩
  · rw [ht]; exact Nat.lt_of_le_of_lt (Nat.mul_le_mul_right _ h2) g.room
  · rw [hb] at hi h
    have := g.top i hi h
    rw [ht, hl]; omega
theorem Wb.shift {s s' : Cs} (k : Nat) (g : Wb s) (hb : s'.b = s.b) (hl : s'.l = s.l) (ht : s.t = s'.t + k) (ht2 : s.t ≤ 27) (hc : s'.c = s.c * 2 ^ k) (ha : s'.a = s.a * 2 ^ k) : Wb s' := by
  refine ⟨?_, by rw [hb]; exact g.pairs, fun i hi h => ?_⟩
  · rw [hc, ha, ← Nat.add_mul, Nat.mul_assoc, ← Nat.pow_add, show k + s'.t = s.t by omega]; exact g.room
  · rw [hb] at hi h
    have := Nat.mul_le_mul_right (2 ^ k) (g.top i hi h)
    rw [Nat.add_mul, Nat.add_mul, Nat.mul_assoc, Nat.mul_assoc, ← Nat.pow_add] at this
    rw [hl, hc, ha, show 27 - s'.t = 27 - s.t + k by omega]; exact this
theorem Wb.last {s : Cs} (g : Wb s) (hpos : 1 ≤ s.a) (i : Nat) (hi : i + 1 = s.b.length) (h : s.b.getD i 0 = 255) : s.l ≤ 143 := by
  have := g.top i hi h
  have hp := Nat.two_pow_pos (27 - s.t)
  have : s.l * 2 ^ (27 - s.t) < 144 * 2 ^ (27 - s.t) := by omega
  have := Nat.lt_of_mul_lt_mul_right this
  omega

theorem getD_snoc (l : List Nat) (x i : Nat) : (l ++ [x]).getD i 0 = if i = l.length then x else l.getD i 0 := by
  rw [List.getD_eq_getElem?_getD, List.getD_eq_getElem?_getD]
  by_cases h : i < l.length
  · rw [List.getElem?_append_left h, if_neg (by omega)]
  · rw [List.getElem?_append_right (by omega)]
    by_cases h2 : i = l.length
    · rw [if_pos h2, h2, Nat.sub_self]; rfl
    · rw [if_neg h2, List.getElem?_eq_none (by simp; omega), List.getElem?_eq_none (by omega)]

theorem Wb.out {s : Cs} (g : Wb s) (ht : s.t = 0) (hpos : 1 ≤ s.a) :
    (∀ i, i + 1 < (outP s).b.length → (outP s).b.getD i 0 = 255 → (outP s).b.getD (i + 1) 0 ≤ 143) ∧ (∀ i, i + 1 = (outP s).b.length → (outP s).b.getD i 0 = 255 → (outP s).l * 2 ^ (27 - (outP s).t) + (outP s).c + s.a ≤ 144 * 2 ^ (27 - (outP s).t)) := by
  have hr := g.room
  rw [ht, Nat.pow_zero, Nat.mul_one] at hr
  have hbl : (outP s).b.length = s.b.length + 1 := by simp [outP]
  have hg : ∀ i, (outP s).b.getD i 0 = if i = s.b.length then outL s.c s.l else s.b.getD i 0 := fun i => getD_snoc _ _ _
  refine ⟨fun i hi h => ?_, fun i hi h => ?_⟩
  · rw [hbl] at hi
    rw [hg, if_neg (by omega)] at h
    rw [hg]
    by_cases h2 : i + 1 = s.b.length
    · rw [if_pos h2]
      have ht2 := g.top i h2 h
      rw [ht] at ht2
      have e : (2 : Nat) ^ (27 - 0) = 134217728 := rfl
      rw [e] at ht2
      unfold outL
      split
      · rename_i hc; have := hc.1; omega
      · omega
    · rw [if_neg h2]; exact g.pairs i (by omega) h
  · rw [hbl] at hi
    rw [hg, if_pos (by omega)] at h
    have hT : (outP s).t = 7 := by show outT (outL s.c s.l) = 7; rw [h]; rfl
    have hlo : outLow (outL s.c s.l) = 20 := by rw [h]; rfl
    have hcl : outC s.c s.l ≤ s.c := by unfold outC; split <;> omega
    have ec : (outP s).c = outC s.c s.l % 2 ^ 20 := by show outC s.c s.l % 2 ^ outLow _ = _; rw [hlo]
    have el : (outP s).l = outC s.c s.l / 2 ^ 20 % 256 := by show outC s.c s.l / 2 ^ outLow _ % 256 = _; rw [hlo]
    rw [hT, ec, el, show 27 - 7 = 20 from rfl, show (2 : Nat) ^ 20 = 1048576 from rfl]
    omega

theorem Wb.out' {s : Cs} (g : Wb s) (ht : s.t = 0) (hpos : 1 ≤ s.a) (ha : s.a < 65536) : Wb (outP s) := by
  obtain ⟨h1, h2⟩ := g.out ht hpos
  refine ⟨?_, h1, h2⟩
  show (outC s.c s.l % 2 ^ outLow (outL s.c s.l) + s.a) * 2 ^ outT (outL s.c s.l) < 150994944
  unfold outLow outT
  split
  · have : outC s.c s.l % 2 ^ 20 < 2 ^ 20 := Nat.mod_lt _ (by decide)
    omega
  · have : outC s.c s.l % 2 ^ 19 < 2 ^ 19 := Nat.mod_lt _ (by decide)
    omega

theorem Wb.doubled {s : Cs} (g : Wb s) (hw : Cw s) (ha : s.a < 32768) : Wb (Go.Proofs.Ytkggdnkmaldmlab.doubled s) := by
  have h2 := hw.apos
  have h3 := hw.tpos
  have h4 := hw.tlt
  unfold Go.Proofs.Ytkggdnkmaldmlab.doubled
  split
  · rename_i ht
    refine Wb.out' (s := { s with a := 2 * s.a, c := 2 * s.c, t := 0 }) (g.shift 1 rfl rfl (by rw [ht]) (by omega) (by show 2 * s.c = _; omega) (by show 2 * s.a = _; omega)) rfl (by show 1 ≤ 2 * s.a; omega) (by show 2 * s.a < 65536; omega)
  · exact g.shift 1 rfl rfl (by show s.t = s.t - 1 + 1; omega) (by omega) (by show 2 * s.c = _; omega) (by show 2 * s.a = _; omega)
theorem Wb.renew : ∀ (n : Nat) (s : Cs), Wb s → Cw s → s.a < 32768 → Wb (renewP n s)
  | 0, s, g, _, _ => g
  | n + 1, s, g, hw, ha => by
    unfold renewP
    split
    · rename_i hlt
      exact Wb.renew n _ (g.doubled hw ha) (doubled_cw hw ha) hlt
    · exact g.doubled hw ha
theorem Wb.code {s : Cs} (g : Wb s) (hok : Cok s) {x : Nat} (hx : x < 94) (bit : Nat) : Wb (codeP s x bit) := by
  obtain ⟨q1, q2⟩ := rQ_bd (x / 2) (by omega)
  have hha := hok.half
  unfold codeP
  split
  · exact g.shrink rfl rfl rfl (by show s.c + _ + (s.a - _) ≤ s.c + s.a; omega)
  · rename_i hc
    have hw := codeS_cw hok q1 q2 (decide (bit = x % 2))
    have ha := codeS_a hok q1 q2 (decide (bit = x % 2)) (by rw [decide_eq_true_eq]; exact hc)
    refine Wb.renew 16 _ ?_ hw ha
    unfold codeS
    split
    · exact g.shrink rfl rfl rfl (by show s.c + rQ (x / 2) ≤ s.c + s.a; omega)
    · exact g.shrink rfl rfl rfl (by show s.c + _ + (s.a - _) ≤ s.c + s.a; omega)

end Go.Proofs.Ytkggdnkmaldmlab

/- The bytes that a flush leaves. -/
namespace Go.Proofs.Ytkggdnkmaldmlab

/-- The bytes in the end, ones behind them; their shifts. -/
def endF (s : Cs) (i : Nat) : Nat := if i ≤ (flush2 s).b.length then ((flush2 s).b ++ [(flush2 s).l]).getD i 0 else 255
def endH (s : Cs) (i : Nat) : Nat := if i < (flush2 s).b.length then outT (endF s i) else 8

theorem endF_b (s : Cs) (i : Nat) (h : i < (flush2 s).b.length) : endF s i = (flush2 s).b.getD i 0 := by
  unfold endF; rw [if_pos (by omega), getD_snoc, if_neg (by omega)]
theorem endF_l (s : Cs) : endF s (flush2 s).b.length = (flush2 s).l := by
  unfold endF; rw [if_pos (Nat.le_refl _), getD_snoc, if_pos rfl]
theorem endF_past (s : Cs) (i : Nat) (h : (flush2 s).b.length < i) : endF s i = 255 := by
  unfold endF; rw [if_neg (by omega)]
theorem endH_in (s : Cs) : ∀ i, i < (flush2 s).b.length → endH s i = outT (endF s i) := by
  intro i hi; unfold endH; rw [if_pos hi]

theorem endZ (s : Cs) : ∀ r, Zv (endF s) (endH s) ((flush2 s).b.length + r) + 1 = (Zv (endF s) (endH s) (flush2 s).b.length + 1) * 2 ^ (8 * r) ∧ Sv (endH s) (flush2 s).b.length r = 8 * r
  | 0 => ⟨by simp, rfl⟩
  | r + 1 => by
    obtain ⟨a, b⟩ := endZ s r
    have e : endH s ((flush2 s).b.length + r) = 8 := by unfold endH; rw [if_neg (by omega)]
    constructor
    · show Zv _ _ ((flush2 s).b.length + r) * 2 ^ endH s ((flush2 s).b.length + r) + endF s ((flush2 s).b.length + r + 1) + 1 = _
      rw [e, endF_past s _ (by omega), show 8 * (r + 1) = 8 * r + 8 by omega, Nat.pow_add, ← Nat.mul_assoc, ← a]
      have : (2 : Nat) ^ 8 = 256 := rfl
      rw [this]; omega
    · show Sv _ _ r + endH s ((flush2 s).b.length + r) = _
      rw [b, e]; omega

/-- The last sixteen bits but one are ones. -/
theorem flushC_ones (c a : Nat) : flushC c a % 32768 = 32767 := by
  have e : (c ||| 65535) % 65536 = 65535 := by
    rw [show (65536 : Nat) = 2 ^ 16 from rfl, Nat.or_mod_two_pow]
    have h1 : c % 2 ^ 16 ||| 65535 % 2 ^ 16 < 2 ^ 16 := Nat.or_lt_two_pow (Nat.mod_lt _ (by decide)) (Nat.mod_lt _ (by decide))
    have h2 : 65535 % 2 ^ 16 ≤ c % 2 ^ 16 ||| 65535 % 2 ^ 16 := Nat.right_le_or
    have e3 : 65535 % 2 ^ 16 = 65535 := rfl
    rw [e3] at h1 h2 ⊢
    have : (2 : Nat) ^ 16 = 65536 := rfl
    omega
  unfold flushC
  split <;> omega
theorem flushC_ge {c a : Nat} (ha : 32768 ≤ a) : c ≤ flushC c a := by
  have : c ≤ c ||| 65535 := Nat.left_le_or
  unfold flushC; split <;> omega

theorem mod_mod_pow (x a b : Nat) (h : b ≤ a) : x % 2 ^ a % 2 ^ b = x % 2 ^ b := Nat.mod_mod_of_dvd _ (Nat.pow_dvd_pow 2 h)
theorem outC_mod (c l b : Nat) (h : b ≤ 27) : outC c l % 2 ^ b = c % 2 ^ b := by
  unfold outC
  split
  · rw [show (134217728 : Nat) = 2 ^ 27 from rfl]; exact mod_mod_pow _ _ _ h
  · rfl
theorem mul_mod_pow (y a k b : Nat) (h : b ≤ a + k) : y % 2 ^ a * 2 ^ k % 2 ^ b = y * 2 ^ k % 2 ^ b := by
  rw [← Nat.mul_mod_mul_right, ← Nat.pow_add]; exact mod_mod_pow _ _ _ h
theorem outC_mul (c l k b : Nat) (h : b ≤ 27) : outC c l * 2 ^ k % 2 ^ b = c * 2 ^ k % 2 ^ b := by
  unfold outC
  split
  · rw [show (134217728 : Nat) = 2 ^ 27 from rfl]; exact mul_mod_pow _ _ _ _ (by omega)
  · rfl
/-- What is left of C in the end. -/
theorem flush_left (s : Cs) : (flush2 s).c = flushC s.c s.a * 2 ^ (s.t + (flush1 s).t) % 2 ^ (27 - (flush2 s).t) := by
  have t2 : 27 - (flush2 s).t = outLow (outL ((flush1 s).c * 2 ^ (flush1 s).t) (flush1 s).l) := by
    show 27 - outT (outL ((flush1 s).c * 2 ^ (flush1 s).t) (flush1 s).l) = _
    have := outT_low (outL ((flush1 s).c * 2 ^ (flush1 s).t) (flush1 s).l); omega
  have l2 : outLow (outL ((flush1 s).c * 2 ^ (flush1 s).t) (flush1 s).l) ≤ 20 := by unfold outLow; split <;> omega
  have l1 : 19 ≤ outLow (outL (flushC s.c s.a * 2 ^ s.t) s.l) := by unfold outLow; split <;> omega
  have c1 : (flush1 s).c = outC (flushC s.c s.a * 2 ^ s.t) s.l % 2 ^ outLow (outL (flushC s.c s.a * 2 ^ s.t) s.l) := rfl
  have c2 : (flush2 s).c = outC ((flush1 s).c * 2 ^ (flush1 s).t) (flush1 s).l % 2 ^ outLow (outL ((flush1 s).c * 2 ^ (flush1 s).t) (flush1 s).l) := rfl
  have t1 : 7 ≤ (flush1 s).t := (outT_bd _).1
  rw [t2, c2, outC_mod _ _ _ (by omega)]
  generalize outLow (outL ((flush1 s).c * 2 ^ (flush1 s).t) (flush1 s).l) = w at l2
  rw [c1, mul_mod_pow _ _ _ _ (by omega), outC_mul _ _ _ _ (by omega), Nat.mul_assoc, ← Nat.pow_add]

theorem ones_mod : ∀ k, k < 16 → 32767 % 2 ^ k = 2 ^ k - 1 := by decide
theorem flush_room (s : Cs) (ht : 1 ≤ s.t) : 2 ^ (27 - (flush2 s).t) ≤ (flush2 s).c + 2 ^ (s.t + (flush1 s).t) := by
  have t1 : 7 ≤ (flush1 s).t := (outT_bd _).1
  have t2 : 7 ≤ (flush2 s).t := (outT_bd _).1
  have hl := flush_left s
  have ho := flushC_ones s.c s.a
  obtain ⟨u, hu⟩ : ∃ u, u = s.t + (flush1 s).t := ⟨_, rfl⟩
  obtain ⟨w, hw⟩ : ∃ w, w = 27 - (flush2 s).t := ⟨_, rfl⟩
  rw [← hu, ← hw] at hl ⊢
  by_cases h : w ≤ u
  · have := Nat.pow_le_pow_right (n := 2) (by decide) h
    omega
  · obtain ⟨k, hk⟩ : ∃ k, w = k + u := ⟨w - u, by omega⟩
    rw [hk, Nat.pow_add, Nat.mul_mod_mul_right] at hl
    have e : flushC s.c s.a % 2 ^ k = 2 ^ k - 1 := by
      rw [← ones_mod k (by omega), ← ho, show (32768 : Nat) = 2 ^ 15 from rfl]
      exact (mod_mod_pow _ _ _ (by omega)).symm
    rw [e] at hl
    have hp := Nat.two_pow_pos k
    rw [hk, Nat.pow_add, hl, Nat.sub_mul, Nat.one_mul]
    have : 2 ^ u ≤ 2 ^ k * 2 ^ u := Nat.le_mul_of_pos_left _ hp
    omega

theorem flush_good {s : Cs} (hok : Cok s) : Good (endF s) (endH s) (flush2 s).b.length s := by
  have hw := hok.cw
  have ht1 := hw.tpos
  have ht2 := hw.tlt
  have hroom := hw.room
  have hx1 : s.c ≤ flushC s.c s.a := flushC_ge hok.half
  have hx2 := flushC_lt (c := s.c) hok.half
  have hxl : flushC s.c s.a * 2 ^ s.t < 268435456 := Nat.lt_of_lt_of_le (Nat.mul_lt_mul_of_pos_right hx2 (Nat.two_pow_pos _)) hroom
  have hlen2 : (flush2 s).b.length = (flush1 s).b.length + 1 := by simp [flush2, outP]
  have hlen1 : (flush1 s).b.length = s.b.length + 1 := by simp [flush1, outP]
  have u1 : 7 ≤ (flush1 s).t ∧ (flush1 s).t ≤ 8 := outT_bd _
  have u2 : 7 ≤ (flush2 s).t ∧ (flush2 s).t ≤ 8 := outT_bd _
  have hc1 : (flush1 s).c * 2 ^ (flush1 s).t < 268435456 := by
    have e1 : (flush1 s).c = outC (flushC s.c s.a * 2 ^ s.t) s.l % 2 ^ outLow (outL (flushC s.c s.a * 2 ^ s.t) s.l) := rfl
    have e2 : (flush1 s).t = outT (outL (flushC s.c s.a * 2 ^ s.t) s.l) := rfl
    have e3 := outT_low (outL (flushC s.c s.a * 2 ^ s.t) s.l)
    have e4 : (flush1 s).c < 2 ^ outLow (outL (flushC s.c s.a * 2 ^ s.t) s.l) := by rw [e1]; exact Nat.mod_lt _ (Nat.two_pow_pos _)
    have e5 := Nat.mul_lt_mul_of_pos_right e4 (Nat.two_pow_pos (flush1 s).t)
    rw [← Nat.pow_add, e2, Nat.add_comm, e3] at e5
    have : (2 : Nat) ^ 27 = 134217728 := rfl
    rw [e2]; omega
  have g2 : Good (endF s) (endH s) (flush2 s).b.length { flush2 s with a := 2 ^ (s.t + (flush1 s).t) } := by
    have hz : Zv (endF s) (endH s) (flush2 s).b.length = Yv (endF s) (endH s) (flush2 s).b.length + (flush2 s).l := by rw [Zv_eq, endF_l]
    have hcw : (flush2 s).c < 2 ^ (27 - (flush2 s).t) := by rw [flush_left s]; exact Nat.mod_lt _ (Nat.two_pow_pos _)
    have hr := flush_room s ht1
    have hb : baseV (endF s) (endH s) { flush2 s with a := 2 ^ (s.t + (flush1 s).t) } = Zv (endF s) (endH s) (flush2 s).b.length * 2 ^ (27 - (flush2 s).t) + (flush2 s).c := by rw [hz]; rfl
    refine ⟨fun i hi => endF_b s i hi, by show (flush2 s).l ≤ endF s (flush2 s).b.length; rw [endF_l]; exact Nat.le_refl _, Nat.le_refl _, fun r _ => ?_, fun r _ => ?_⟩
    · obtain ⟨z1, z2⟩ := endZ s r
      show baseV _ _ _ * 2 ^ ((flush2 s).t + Sv _ (flush2 s).b.length r) < (Zv _ _ ((flush2 s).b.length + r) + 1) * 2 ^ 27
      rw [z1, z2, hb]
      generalize Zv (endF s) (endH s) (flush2 s).b.length = Z
      have h1 : Z * 2 ^ (27 - (flush2 s).t) + (flush2 s).c < (Z + 1) * 2 ^ (27 - (flush2 s).t) := by rw [Nat.add_mul, Nat.one_mul]; omega
      refine Nat.lt_of_lt_of_eq (Nat.mul_lt_mul_of_pos_right h1 (Nat.two_pow_pos _)) ?_
      rw [Nat.mul_assoc, ← Nat.pow_add, Nat.mul_assoc, ← Nat.pow_add]
      congr 2; omega
    · obtain ⟨z1, z2⟩ := endZ s r
      show Zv _ _ ((flush2 s).b.length + r) * 2 ^ 27 < (baseV _ _ _ + 2 ^ (s.t + (flush1 s).t)) * 2 ^ ((flush2 s).t + Sv _ (flush2 s).b.length r)
      rw [z2, hb]
      have h0 : Zv (endF s) (endH s) ((flush2 s).b.length + r) < (Zv (endF s) (endH s) (flush2 s).b.length + 1) * 2 ^ (8 * r) := by omega
      generalize Zv (endF s) (endH s) (flush2 s).b.length = Z at h0
      refine Nat.lt_of_lt_of_le (Nat.mul_lt_mul_of_pos_right h0 (Nat.two_pow_pos 27)) ?_
      have h1 : (Z + 1) * 2 ^ (27 - (flush2 s).t) ≤ Z * 2 ^ (27 - (flush2 s).t) + (flush2 s).c + 2 ^ (s.t + (flush1 s).t) := by rw [Nat.add_mul, Nat.one_mul]; omega
      refine Nat.le_trans (Nat.le_of_eq ?_) (Nat.mul_le_mul_right _ h1)
      rw [Nat.mul_assoc, ← Nat.pow_add, Nat.mul_assoc, ← Nat.pow_add]
      congr 2; omega
  have g1d : Good (endF s) (endH s) (flush2 s).b.length { flush1 s with c := (flush1 s).c * 2 ^ (flush1 s).t, t := 0, a := 2 ^ (s.t + (flush1 s).t) } :=
    Good.out (endH_in s) g2 rfl hc1 (by show (flush1 s).b.length < _; omega)
  have g1 : Good (endF s) (endH s) (flush2 s).b.length { flush1 s with a := 2 ^ s.t } :=
    g1d.shift (flush1 s).t rfl rfl (by show (flush1 s).t = 0 + (flush1 s).t; omega) (by show (flush1 s).t ≤ 27; omega) rfl (by show 2 ^ (s.t + (flush1 s).t) = 2 ^ s.t * 2 ^ (flush1 s).t; rw [Nat.pow_add])
  have g0d : Good (endF s) (endH s) (flush2 s).b.length { s with c := flushC s.c s.a * 2 ^ s.t, t := 0, a := 2 ^ s.t } :=
    Good.out (endH_in s) g1 rfl hxl (by show s.b.length < _; omega)
  have g0 : Good (endF s) (endH s) (flush2 s).b.length { s with c := flushC s.c s.a, a := 1 } :=
    g0d.shift s.t rfl rfl (by show s.t = 0 + s.t; omega) (by show s.t ≤ 27; omega) rfl (by show 2 ^ s.t = 1 * 2 ^ s.t; omega)
  exact g0.shrink rfl rfl rfl hx1 (by show flushC s.c s.a + 1 ≤ s.c + s.a; omega)

/-- No byte above 8f behind an ff in the end. -/
theorem flush_pairs {s : Cs} (hok : Cok s) (hb : Wb s) (i : Nat) (hi : i < (flush2 s).b.length) (h : endF s i = 255) : endF s (i + 1) ≤ 143 := by
  have hw := hok.cw
  have ht1 := hw.tpos
  have ht2 := hw.tlt
  have hx2 := flushC_lt (c := s.c) hok.half
  have b0 : Wb { s with c := flushC s.c s.a, a := 1 } := hb.shrink rfl rfl rfl (by show flushC s.c s.a + 1 ≤ s.c + s.a; omega)
  have b0d : Wb { s with c := flushC s.c s.a * 2 ^ s.t, t := 0, a := 2 ^ s.t } := b0.shift s.t rfl rfl (by show s.t = 0 + s.t; omega) (by show s.t ≤ 27; omega) rfl (by show 2 ^ s.t = 1 * 2 ^ s.t; omega)
  have hp : 2 ^ s.t ≤ 2 ^ 12 := Nat.pow_le_pow_right (by decide) ht2
  have e12 : (2 : Nat) ^ 12 = 4096 := rfl
  have b1 : Wb { flush1 s with a := 2 ^ s.t } := b0d.out' rfl (Nat.two_pow_pos _) (by show 2 ^ s.t < 65536; omega)
  have u1 : 7 ≤ (flush1 s).t ∧ (flush1 s).t ≤ 8 := outT_bd _
  have b1d : Wb { flush1 s with c := (flush1 s).c * 2 ^ (flush1 s).t, t := 0, a := 2 ^ (s.t + (flush1 s).t) } := b1.shift (flush1 s).t rfl rfl (by show (flush1 s).t = 0 + (flush1 s).t; omega) (by show (flush1 s).t ≤ 27; omega) rfl (by show 2 ^ (s.t + (flush1 s).t) = 2 ^ s.t * 2 ^ (flush1 s).t; rw [Nat.pow_add])
  obtain ⟨p1, p2⟩ := b1d.out rfl (Nat.two_pow_pos _)
  rw [endF_b s i hi] at h
  by_cases h2 : i + 1 < (flush2 s).b.length
  · rw [endF_b s _ h2]; exact p1 i h2 h
  · have h3 : i + 1 = (flush2 s).b.length := by omega
    rw [h3, endF_l]
    have p3 : (flush2 s).l * 2 ^ (27 - (flush2 s).t) + (flush2 s).c + 2 ^ (s.t + (flush1 s).t) ≤ 144 * 2 ^ (27 - (flush2 s).t) := p2 i h3 h
    have hq := Nat.two_pow_pos (s.t + (flush1 s).t)
    have h4 : (flush2 s).l * 2 ^ (27 - (flush2 s).t) < 144 * 2 ^ (27 - (flush2 s).t) := by omega
    have := Nat.lt_of_mul_lt_mul_right h4
    omega

end Go.Proofs.Ytkggdnkmaldmlab

/- The decoder goes where the coder went. -/
namespace Go.Proofs.Ytkggdnkmaldmlab

/-- Bytes as a decoder reads them: F from byte 1 on, M the last one's number. -/
structure Reads (F h : Nat → Nat) (M : Nat) (B : List Nat) : Prop where
  bytes : ∀ i, byteD B i = F (i + 1)
  lt : ∀ i, F i < 256
  past : ∀ i, B.length < i → F i = 255
  len : B.length ≤ M ∧ M ≤ B.length + 1
  full : M = B.length + 1 → F M = 255
  notfull : M = B.length → F M ≠ 255
  pairs : ∀ i, i < M → F i = 255 → F (i + 1) ≤ 143
  sh : ∀ i, i < M → h i = outT (F i)
  sh8 : ∀ i, M ≤ i → h i = 8

theorem Reads.inD {F h : Nat → Nat} {M : Nat} {B : List Nat} (R : Reads F h M B) (d : Ds) (j : Nat) (hj : 1 ≤ j) (hp : d.p = min (j - 1) B.length) :
    inD B d = { a := d.a, c := (d.c + F (j + 1) * 2 ^ (16 - h j)) % 4294967296, t := h j, p := min j B.length } := by
  have hcur : byteD B d.p = F j := by
    rw [R.bytes, hp]
    by_cases h1 : j - 1 ≤ B.length
    · rw [Nat.min_eq_left h1, show j - 1 + 1 = j by omega]
    · rw [Nat.min_eq_right (by omega), R.past _ (by omega), R.past j (by omega)]
  have hl := R.len
  unfold Go.Proofs.Ytkggdnkmaldmlab.inD
  rw [hcur, R.bytes]
  by_cases h1 : F j = 255
  · rw [if_neg (by simpa using h1)]
    by_cases h2 : j < M
    · have hpr := R.pairs j h2 h1
      have hjl : j ≤ B.length := by
        by_cases h3 : j ≤ B.length
        · exact h3
        · have := R.past (j + 1) (by omega); omega
      have hpe : d.p = j - 1 := by rw [hp]; exact Nat.min_eq_left (by omega)
      rw [hpe, show j - 1 + 1 + 1 = j + 1 by omega, show j - 1 + 1 = j by omega, if_neg (by omega), R.sh j h2, h1]
      have e : outT 255 = 7 := rfl
      rw [e, Nat.min_eq_left hjl]
    · have hjp : B.length ≤ j - 1 := by
        by_cases h3 : M = B.length + 1
        · omega
        · have h4 : M = B.length := by omega
          have h5 := R.notfull h4
          have : j ≠ M := fun e => h5 (by rw [← e]; exact h1)
          omega
      have hpe : d.p = B.length := by rw [hp]; exact Nat.min_eq_right hjp
      rw [hpe, R.past (B.length + 1 + 1) (by omega), if_pos (by decide), R.sh8 j (by omega), R.past (j + 1) (by omega), Nat.min_eq_right (by omega)]
  · rw [if_pos (by simpa using h1)]
    have hjl : j ≤ B.length := by
      by_cases h3 : j ≤ B.length
      · exact h3
      · exact absurd (R.past j (by omega)) h1
    have hpe : d.p = j - 1 := by rw [hp]; exact Nat.min_eq_left (by omega)
    have hh : h j = 8 := by
      by_cases h2 : j < M
      · rw [R.sh j h2]; unfold outT; rw [if_neg h1]
      · exact R.sh8 j (by omega)
    rw [hpe, show j - 1 + 1 + 1 = j + 1 by omega, show j - 1 + 1 = j by omega, hh, Nat.min_eq_left hjl]

theorem Reads.h_bd {F h : Nat → Nat} {M : Nat} {B : List Nat} (R : Reads F h M B) (i : Nat) : 7 ≤ h i ∧ h i ≤ 8 := by
  by_cases h1 : i < M
  · rw [R.sh i h1]; exact outT_bd _
  · rw [R.sh8 i (by omega)]; omega
theorem Sv_le {F h : Nat → Nat} {M : Nat} {B : List Nat} (R : Reads F h M B) (n : Nat) : ∀ r, Sv h n r ≤ 8 * r
  | 0 => by simp [Sv]
  | r + 1 => by
    have := Sv_le R n r
    have := (R.h_bd (n + r)).2
    show Sv h n r + h (n + r) ≤ _
    omega

/-- Coder and decoder behind the same decisions. -/
structure Sim (F h : Nat → Nat) (B : List Nat) (s : Cs) (d : Ds) (j : Nat) : Prop where
  a : d.a = s.a
  jle : s.b.length + 1 ≤ j
  t : s.t + Sv h s.b.length (j - s.b.length) = 27 + d.t
  c : d.c + baseV F h s * 65536 = Zv F h j * 2 ^ (16 - d.t)
  p : d.p = min (j - 1) B.length
  tle : d.t ≤ 8

/-- Where the number lies. -/
theorem Sim.between {F h : Nat → Nat} {M : Nat} {B : List Nat} {s s' : Cs} {d : Ds} {j : Nat} (S : Sim F h B s d j) (g : Good F h M s') (hb : s'.b = s.b) (ht : s'.t = s.t) :
    baseV F h s' * 2 ^ d.t ≤ Zv F h j ∧ Zv F h j < (baseV F h s' + s'.a) * 2 ^ d.t := by
  have hj := S.jle
  have l := g.low (j - s.b.length) (by omega)
  have u := g.up (j - s.b.length) (by omega)
  rw [hb, ht, S.t, show s.b.length + (j - s.b.length) = j by omega, show 27 + d.t = d.t + 27 from Nat.add_comm _ _, Nat.pow_add, ← Nat.mul_assoc] at l u
  have l2 := Nat.lt_of_mul_lt_mul_right l
  have u2 := Nat.lt_of_mul_lt_mul_right u
  exact ⟨by omega, u2⟩

theorem Sim.c_lt {F h : Nat → Nat} {M : Nat} {B : List Nat} {s : Cs} {d : Ds} {j : Nat} (S : Sim F h B s d j) (g : Good F h M s) : d.c < s.a * 65536 := by
  obtain ⟨l, u⟩ := S.between g rfl rfl
  have hc := S.c
  have ht := S.tle
  have e : (2 : Nat) ^ d.t * 2 ^ (16 - d.t) = 65536 := by rw [← Nat.pow_add, show d.t + (16 - d.t) = 16 by omega]
  have u2 := Nat.mul_lt_mul_of_pos_right u (Nat.two_pow_pos (16 - d.t))
  rw [Nat.mul_assoc, e, Nat.add_mul] at u2
  omega

/-- In which part the number lies. -/
theorem Sim.lower {F h : Nat → Nat} {B : List Nat} {s : Cs} {d : Ds} {j : Nat} (S : Sim F h B s d j) (q : Nat) : (d.c / 65536 < q ↔ Zv F h j < (baseV F h s + q) * 2 ^ d.t) := by
  have hc := S.c
  have ht := S.tle
  have e : (2 : Nat) ^ d.t * 2 ^ (16 - d.t) = 65536 := by rw [← Nat.pow_add, show d.t + (16 - d.t) = 16 by omega]
  have h1 : d.c / 65536 < q ↔ d.c < q * 65536 := Nat.div_lt_iff_lt_mul (by decide)
  rw [h1]
  have h2 : Zv F h j < (baseV F h s + q) * 2 ^ d.t ↔ Zv F h j * 2 ^ (16 - d.t) < (baseV F h s + q) * 2 ^ d.t * 2 ^ (16 - d.t) :=
    ⟨fun h => Nat.mul_lt_mul_of_pos_right h (Nat.two_pow_pos _), fun h => Nat.lt_of_mul_lt_mul_right h⟩
  rw [h2, Nat.mul_assoc, e, Nat.add_mul]
  omega

/-- A doubling. -/
theorem Sim.doubled {F h : Nat → Nat} {M : Nat} {B : List Nat} (R : Reads F h M B) {s : Cs} {d : Ds} {j : Nat} (S : Sim F h B s d j) (hw : Cw s) (ha : s.a < 32768) (gd : Good F h M (Go.Proofs.Ytkggdnkmaldmlab.doubled s)) :
    ∃ j', Sim F h B (Go.Proofs.Ytkggdnkmaldmlab.doubled s) (doubledD B d) j' := by
  obtain ⟨g, hbase, ho1, ho2⟩ := gd.doubled R.sh hw
  -- a byte comes in, if one is wanted
  have hin : ∃ j', Sim F h B s (inZ B d) j' ∧ 1 ≤ (inZ B d).t := by
    unfold inZ
    by_cases h0 : d.t = 0
    · rw [if_pos h0, R.inD d j (by have := S.jle; omega) S.p]
      obtain ⟨k7, k8⟩ := R.h_bd j
      have hc := S.c
      rw [h0, Nat.sub_zero] at hc
      have hjl := S.jle
      have hS : Sv h s.b.length (j + 1 - s.b.length) = Sv h s.b.length (j - s.b.length) + h j := by
        rw [show j + 1 - s.b.length = (j - s.b.length) + 1 by omega]
        show Sv h s.b.length (j - s.b.length) + h (s.b.length + (j - s.b.length)) = _
        rw [show s.b.length + (j - s.b.length) = j by omega]
      have hcn : d.c + F (j + 1) * 2 ^ (16 - h j) + baseV F h s * 65536 = Zv F h (j + 1) * 2 ^ (16 - h j) := by
        show _ = (Zv F h j * 2 ^ h j + F (j + 1)) * 2 ^ (16 - h j)
        rw [Nat.add_mul, Nat.mul_assoc, ← Nat.pow_add, show h j + (16 - h j) = 16 by omega, ← hc]; omega
      have S2 : Sim F h B s { a := d.a, c := d.c + F (j + 1) * 2 ^ (16 - h j), t := h j, p := min j B.length } (j + 1) :=
        ⟨S.a, by omega, by show s.t + Sv h s.b.length (j + 1 - s.b.length) = 27 + h j; have := S.t; omega, hcn, by show min j B.length = min (j + 1 - 1) B.length; rw [Nat.add_sub_cancel], by show h j ≤ 8; omega⟩
      have hlt := S2.c_lt g
      have hm : (d.c + F (j + 1) * 2 ^ (16 - h j)) % 4294967296 = d.c + F (j + 1) * 2 ^ (16 - h j) := Nat.mod_eq_of_lt (by simp only [] at hlt; omega)
      rw [hm]
      exact ⟨j + 1, S2, by show 1 ≤ h j; omega⟩
    · rw [if_neg h0]
      exact ⟨j, S, by omega⟩
  obtain ⟨j', S2, ht1⟩ := hin
  refine ⟨j', ?_⟩
  unfold doubledD
  have hlt := S2.c_lt g
  have hjl := S2.jle
  have hm : 2 * (inZ B d).c % 4294967296 = 2 * (inZ B d).c := Nat.mod_eq_of_lt (by omega)
  have ht8 := S2.tle
  have hst := S2.t
  have hsl := Sv_le R s.b.length (j' - s.b.length)
  refine ⟨?_, ?_, ?_, ?_, S2.p, by show (inZ B d).t - 1 ≤ 8; omega⟩
  · show 2 * (inZ B d).a = _; rw [doubled_a, S2.a]
  · by_cases h1 : s.t = 1
    · rw [(ho1 h1).1]; omega
    · rw [(ho2 h1).1]; exact hjl
  · show _ = 27 + ((inZ B d).t - 1)
    by_cases h1 : s.t = 1
    · rw [(ho1 h1).1, (ho1 h1).2]
      have hf := Sv_front h s.b.length (j' - (s.b.length + 1))
      rw [show j' - (s.b.length + 1) + 1 = j' - s.b.length by omega] at hf
      omega
    · rw [(ho2 h1).1, (ho2 h1).2]
      have := hw.tpos
      omega
  · show 2 * (inZ B d).c % 4294967296 + _ = Zv F h j' * 2 ^ (16 - ((inZ B d).t - 1))
    rw [hm, hbase, show 16 - ((inZ B d).t - 1) = (16 - (inZ B d).t) + 1 by omega, Nat.pow_succ, ← Nat.mul_assoc, ← S2.c]
    omega

theorem Sim.renew {F h : Nat → Nat} {M : Nat} {B : List Nat} (R : Reads F h M B) : ∀ (n : Nat) (s : Cs) (d : Ds) (j : Nat), Sim F h B s d j → Cw s → s.a < 32768 → 32768 ≤ s.a * 2 ^ n → Good F h M (renewP n s) → ∃ j', Sim F h B (renewP n s) (renewD B n d) j'
  | 0, s, d, j, _, _, ha, hn, _ => by omega
  | n + 1, s, d, j, S, hw, ha, hn, g => by
    obtain ⟨gd, _⟩ := Good.renew R.sh (n + 1) s hw ha hn g
    obtain ⟨j', S'⟩ := S.doubled R hw ha gd
    have hd := doubled_cw hw ha
    unfold renewP at g ⊢
    unfold renewD
    rw [S'.a]
    split
    · rename_i hlt
      rw [if_pos hlt] at g
      exact Sim.renew R n _ _ j' S' hd hlt (by rw [doubled_a, Nat.mul_comm 2, Nat.mul_assoc, Nat.mul_comm 2, ← Nat.pow_succ]; exact hn) g
    · exact ⟨j', S'⟩

/-- A decision. -/
theorem Sim.decision {F h : Nat → Nat} {M : Nat} {B : List Nat} (R : Reads F h M B) {s : Cs} {d : Ds} {j : Nat} (S : Sim F h B s d j) (hok : Cok s) {x : Nat} (hx : x < 94) {bit : Nat} (hbit : bit < 2) (g : Good F h M (codeP s x bit)) :
    decBit d x = bit ∧ decX d x = codeX s x bit ∧ ∃ j', Sim F h B (codeP s x bit) (decP B d x) j' := by
  obtain ⟨q1, q2⟩ := rQ_bd (x / 2) (by omega)
  obtain ⟨q, hq⟩ : ∃ q, q = rQ (x / 2) := ⟨_, rfl⟩
  have hha := hok.half
  have hsa := S.a
  have hlow := S.lower q
  have hbu : ∀ a', baseV F h { s with a := a', c := s.c + q } = baseV F h s + q := by intro a'; unfold baseV; simp only []; omega
  have hup : ∀ a' : Nat, Good F h M { s with a := a', c := s.c + q } → ¬ d.c / 65536 < q := by
    intro a' g'
    have := (S.between g' rfl rfl).1
    rw [hbu] at this
    rw [hlow]; omega
  have hsimu : ∀ a' : Nat, ¬ d.c / 65536 < q → Sim F h B { s with a := a', c := s.c + q } { d with a := a', c := d.c - q * 65536 } j := by
    intro a' hn
    have hc := S.c
    refine ⟨rfl, S.jle, S.t, ?_, S.p, S.tle⟩
    show d.c - q * 65536 + baseV F h { s with a := a', c := s.c + q } * 65536 = Zv F h j * 2 ^ (16 - d.t)
    rw [hbu, Nat.add_mul, ← hc]; omega
  rw [← hq] at q1 q2
  by_cases hst : bit = x % 2 ∧ 32768 ≤ s.a - q
  · have ep : codeP s x bit = { s with a := s.a - q, c := s.c + q } := by rw [codeP, ← hq, if_pos hst]
    rw [ep] at g
    have hn := hup _ g
    have hds : decStay d (rQ (x / 2)) := by rw [← hq]; exact ⟨hn, by rw [hsa]; exact hst.2⟩
    refine ⟨by rw [decBit, if_pos hds]; exact hst.1.symm, by rw [decX, if_pos hds, codeX, ← hq, if_pos hst], j, ?_⟩
    rw [ep, decP, if_pos hds, ← hq, decS, if_neg hn, hsa]
    exact hsimu _ hn
  · have ep : codeP s x bit = renewP 16 (codeS s q (decide (bit = x % 2))) := by rw [codeP, ← hq, if_neg hst]
    have ex : codeX s x bit = learnP (decide (bit = x % 2)) x := by rw [codeX, ← hq, if_neg hst]
    rw [ep] at g ⊢
    rw [ex]
    obtain ⟨k, hk⟩ : ∃ k, k = decide (bit = x % 2) := ⟨_, rfl⟩
    rw [← hk] at g ⊢
    have hw := codeS_cw hok q1 q2 k
    have hca := codeS_a hok q1 q2 k (by rw [hk, decide_eq_true_eq]; exact hst)
    have gs := (Good.renew R.sh 16 _ hw hca (by have := hw.apos; omega) g).2
    -- what is told
    have main : ¬ decStay d q ∧ decLikely d q = k ∧ Sim F h B (codeS s q k) (decS d q) j := by
      by_cases hkq : k = decide (s.a - q < q)
      · have es : codeS s q k = { s with a := q } := by rw [codeS, if_pos hkq]
        rw [es] at gs
        have hl : d.c / 65536 < q := hlow.2 (S.between gs rfl rfl).2
        refine ⟨fun hs => hs.1 hl, ?_, ?_⟩
        · unfold decLikely
          rw [decide_eq_true hl, hsa, ← hkq]
          cases k <;> rfl
        · rw [es, decS, if_pos hl]
          exact ⟨rfl, S.jle, S.t, S.c, S.p, S.tle⟩
      · have es : codeS s q k = { s with a := s.a - q, c := s.c + q } := by rw [codeS, if_neg hkq]
        rw [es] at gs
        have hn := hup _ gs
        refine ⟨?_, ?_, ?_⟩
        · rintro ⟨_, h2⟩
          rw [hsa] at h2
          have hf : decide (s.a - q < q) = false := decide_eq_false (by omega)
          rw [hf] at hkq
          have : k = true := by cases k <;> simp_all
          rw [hk, decide_eq_true_eq] at this
          exact hst ⟨this, h2⟩
        · unfold decLikely
          rw [decide_eq_false hn, hsa]
          revert hkq
          cases k <;> cases decide (s.a - q < q) <;> simp
        · rw [es, decS, if_neg hn, hsa]
          exact hsimu _ hn
    obtain ⟨m1, m2, m3⟩ := main
    rw [hq] at m1 m2
    refine ⟨?_, by rw [decX, if_neg m1, m2], ?_⟩
    · rw [decBit, if_neg m1, m2]
      by_cases hb : bit = x % 2
      · rw [hk, decide_eq_true hb, if_pos rfl]; exact hb.symm
      · rw [hk, decide_eq_false hb]
        simp only [Bool.false_eq_true, if_false]
        omega
    · rw [decP, if_neg m1, ← hq]
      exact Sim.renew R 16 _ _ j m3 hw hca (by have := hw.apos; omega) g

end Go.Proofs.Ytkggdnkmaldmlab
