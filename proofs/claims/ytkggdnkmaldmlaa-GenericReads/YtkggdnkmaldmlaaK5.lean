/- What a coder's bytes say of the intervals that it went through. -/
import Derived.Test.YtkggdnkmaldmlaaK4
namespace Go.Proofs.Ytkggdnkmaldmlaa

/-- The number that bytes F with shifts h say, up to byte j. -/
def Zv (F h : Nat → Nat) : Nat → Nat
  | 0 => F 0
  | j + 1 => Zv F h j * 2 ^ h j + F (j + 1)
/-- The same without byte j itself. -/
def Yv (F h : Nat → Nat) : Nat → Nat
  | 0 => 0
  | j + 1 => Zv F h j * 2 ^ h j
theorem Zv_eq (F h : Nat → Nat) : ∀ j, Zv F h j = Yv F h j + F j
  | 0 => by simp [Zv, Yv]
  | j + 1 => rfl
/-- Shifts from byte n on. -/
def Sv (h : Nat → Nat) (n : Nat) : Nat → Nat
  | 0 => 0
  | r + 1 => Sv h n r + h (n + r)
theorem Sv_front (h : Nat → Nat) (n : Nat) : ∀ r, Sv h n (r + 1) = h n + Sv h (n + 1) r
  | 0 => by simp [Sv]
  | r + 1 => by
    show Sv h n (r + 1) + h (n + (r + 1)) = h n + (Sv h (n + 1) r + h (n + 1 + r))
    rw [Sv_front h n r, show n + (r + 1) = n + 1 + r by omega]; omega

/-- The number at which a coder stands. -/
def baseV (F h : Nat → Nat) (s : Cs) : Nat := (Yv F h s.b.length + s.l) * 2 ^ (27 - s.t) + s.c

structure Good (F h : Nat → Nat) (M : Nat) (s : Cs) : Prop where
  ext : ∀ i, i < s.b.length → F i = s.b.getD i 0
  last : s.l ≤ F s.b.length
  le : s.b.length ≤ M
  low : ∀ r, 1 ≤ r → baseV F h s * 2 ^ (s.t + Sv h s.b.length r) < (Zv F h (s.b.length + r) + 1) * 2 ^ 27
  up : ∀ r, 1 ≤ r → Zv F h (s.b.length + r) * 2 ^ 27 < (baseV F h s + s.a) * 2 ^ (s.t + Sv h s.b.length r)

/-- A decision. -/
theorem Good.shrink {F h : Nat → Nat} {M : Nat} {s s' : Cs} (g : Good F h M s') (hb : s'.b = s.b) (hl : s'.l = s.l) (ht : s'.t = s.t) (h1 : s.c ≤ s'.c) (h2 : s'.c + s'.a ≤ s.c + s.a) : Good F h M s := by
  have e1 : baseV F h s ≤ baseV F h s' := by unfold baseV; rw [hb, hl, ht]; omega
  have e2 : baseV F h s' + s'.a ≤ baseV F h s + s.a := by unfold baseV; rw [hb, hl, ht]; omega
  refine ⟨by rw [← hb]; exact g.ext, by rw [← hb, ← hl]; exact g.last, by rw [← hb]; exact g.le, fun r hr => ?_, fun r hr => ?_⟩
  · have := g.low r hr
    rw [hb, ht] at this
    exact Nat.lt_of_le_of_lt (Nat.mul_le_mul_right _ e1) this
  · have := g.up r hr
    rw [hb, ht] at this
    exact Nat.lt_of_lt_of_le this (Nat.mul_le_mul_right _ e2)

/-- Doublings without a byte. -/
theorem Good.shift {F h : Nat → Nat} {M : Nat} {s s' : Cs} (k : Nat) (g : Good F h M s') (hb : s'.b = s.b) (hl : s'.l = s.l) (ht : s.t = s'.t + k) (ht2 : s.t ≤ 27) (hc : s'.c = s.c * 2 ^ k) (ha : s'.a = s.a * 2 ^ k) : Good F h M s := by
  have e1 : baseV F h s' = baseV F h s * 2 ^ k := by
    unfold baseV
    rw [hb, hl, hc]
    generalize Yv F h s.b.length + s.l = V
    rw [show 27 - s'.t = 27 - s.t + k by omega, Nat.pow_add, Nat.add_mul, Nat.mul_assoc]
  refine ⟨by rw [← hb]; exact g.ext, by rw [← hb, ← hl]; exact g.last, by rw [← hb]; exact g.le, fun r hr => ?_, fun r hr => ?_⟩
  · have := g.low r hr
    rw [hb, e1, Nat.mul_assoc, ← Nat.pow_add, show k + (s'.t + Sv h s.b.length r) = s.t + Sv h s.b.length r by omega] at this
    exact this
  · have := g.up r hr
    rw [hb, e1, ha, ← Nat.add_mul, Nat.mul_assoc, ← Nat.pow_add, show k + (s'.t + Sv h s.b.length r) = s.t + Sv h s.b.length r by omega] at this
    exact this

theorem outL_ge (c l : Nat) : l ≤ outL c l := by unfold outL; split <;> omega
theorem outT_low (l : Nat) : outT l + outLow l = 27 := by unfold outT outLow; split <;> rfl
theorem outT_bd (l : Nat) : 7 ≤ outT l ∧ outT l ≤ 8 := by unfold outT; split <;> omega
theorem out_carry_eq (c l Y : Nat) (hc : c < 268435456) : (Y + l) * 2 ^ 27 + c = (Y + outL c l) * 2 ^ 27 + outC c l := by
  have e : (2 : Nat) ^ 27 = 134217728 := rfl
  unfold outL outC
  rw [e]
  split
  · rename_i h
    have := h.1
    omega
  · rfl
theorem out_byte_lt (c l : Nat) (hc : c < 268435456) : outC c l / 2 ^ outLow (outL c l) < 256 := by
  unfold outC outL outLow
  by_cases h : 134217728 ≤ c ∧ l ≠ 255
  · rw [if_pos h, if_pos h]
    split
    · omega
    · omega
  · rw [if_neg h, if_neg h]
    split
    · omega
    · rename_i hl
      have : c < 134217728 := by omega
      omega

theorem Good.out_base {F h : Nat → Nat} {M : Nat} {s : Cs} (hh : ∀ i, i < M → h i = outT (F i)) (g : Good F h M (outP s)) (ht : s.t = 0) (hc : s.c < 268435456) (hM : s.b.length < M) : baseV F h (outP s) = baseV F h s ∧ h s.b.length = (outP s).t := by
  have hbl : (outP s).b.length = s.b.length + 1 := by simp [outP]
  obtain ⟨N, hN⟩ : ∃ N, N = s.b.length := ⟨_, rfl⟩
  have hFN : F N = outL s.c s.l := by
    have := g.ext N (by rw [hbl]; omega)
    rw [this]
    show (s.b ++ [_]).getD N 0 = _
    rw [List.getD_eq_getElem?_getD, List.getElem?_append_right (by omega), hN, Nat.sub_self]; rfl
  have hhN : h N = outT (outL s.c s.l) := by rw [hh N (by omega), hFN]
  obtain ⟨T, hT⟩ : ∃ T, T = outT (outL s.c s.l) := ⟨_, rfl⟩
  obtain ⟨t7, t8⟩ := outT_bd (outL s.c s.l)
  have hlow : outLow (outL s.c s.l) = 27 - T := by have := outT_low (outL s.c s.l); omega
  rw [← hT] at t7 t8 hhN
  have hYN : Yv F h (N + 1) = (Yv F h N + outL s.c s.l) * 2 ^ T := by
    show Zv F h N * 2 ^ h N = _
    rw [Zv_eq, hFN, hhN]
  have hxl : outC s.c s.l / 2 ^ (27 - T) < 256 := by have := out_byte_lt s.c s.l hc; rw [hlow] at this; exact this
  have el : (outP s).l = outC s.c s.l / 2 ^ (27 - T) := by
    show outC s.c s.l / 2 ^ outLow (outL s.c s.l) % 256 = _
    rw [hlow, Nat.mod_eq_of_lt hxl]
  have ec : (outP s).c = outC s.c s.l % 2 ^ (27 - T) := by show outC s.c s.l % 2 ^ outLow (outL s.c s.l) = _; rw [hlow]
  have et : (outP s).t = T := hT.symm
  have e1 : baseV F h (outP s) = baseV F h s := by
    unfold baseV
    rw [hbl, el, ec, et, ht, ← hN, hYN, Nat.add_mul, Nat.mul_assoc, ← Nat.pow_add, show T + (27 - T) = 27 by omega, show 27 - 0 = 27 from rfl, out_carry_eq s.c s.l (Yv F h N) hc, Nat.add_assoc]
    congr 1
    rw [Nat.mul_comm]; exact Nat.div_add_mod _ _
  exact ⟨e1, by rw [← hN, hhN, et]⟩

/-- A byte goes out. -/
theorem Good.out {F h : Nat → Nat} {M : Nat} {s : Cs} (hh : ∀ i, i < M → h i = outT (F i)) (g : Good F h M (outP s)) (ht : s.t = 0) (hc : s.c < 268435456) (hM : s.b.length < M) : Good F h M s := by
  have hbl : (outP s).b.length = s.b.length + 1 := by simp [outP]
  obtain ⟨N, hN⟩ : ∃ N, N = s.b.length := ⟨_, rfl⟩
  have hFN : F N = outL s.c s.l := by
    have := g.ext N (by rw [hbl]; omega)
    rw [this]
    show (s.b ++ [_]).getD N 0 = _
    rw [List.getD_eq_getElem?_getD, List.getElem?_append_right (by omega), hN, Nat.sub_self]; rfl
  have hhN : h N = outT (outL s.c s.l) := by rw [hh N (by omega), hFN]
  obtain ⟨T, hT⟩ : ∃ T, T = outT (outL s.c s.l) := ⟨_, rfl⟩
  obtain ⟨t7, t8⟩ := outT_bd (outL s.c s.l)
  have hlow : outLow (outL s.c s.l) = 27 - T := by have := outT_low (outL s.c s.l); omega
  rw [← hT] at t7 t8 hhN
  have hYN : Yv F h (N + 1) = (Yv F h N + outL s.c s.l) * 2 ^ T := by
    show Zv F h N * 2 ^ h N = _
    rw [Zv_eq, hFN, hhN]
  have hxl : outC s.c s.l / 2 ^ (27 - T) < 256 := by have := out_byte_lt s.c s.l hc; rw [hlow] at this; exact this
  have el : (outP s).l = outC s.c s.l / 2 ^ (27 - T) := by
    show outC s.c s.l / 2 ^ outLow (outL s.c s.l) % 256 = _
    rw [hlow, Nat.mod_eq_of_lt hxl]
  have ec : (outP s).c = outC s.c s.l % 2 ^ (27 - T) := by show outC s.c s.l % 2 ^ outLow (outL s.c s.l) = _; rw [hlow]
  have et : (outP s).t = T := hT.symm
  have e1 : baseV F h (outP s) = baseV F h s := by
    unfold baseV
    rw [hbl, el, ec, et, ht, ← hN, hYN, Nat.add_mul, Nat.mul_assoc, ← Nat.pow_add, show T + (27 - T) = 27 by omega, show 27 - 0 = 27 from rfl, out_carry_eq s.c s.l (Yv F h N) hc, Nat.add_assoc]
    congr 1
    rw [Nat.mul_comm]; exact Nat.div_add_mod _ _
  have hlow1 : baseV F h s * 2 ^ (0 + Sv h N 1) < (Zv F h (N + 1) + 1) * 2 ^ 27 := by
    have hS : Sv h N 1 = T := by show Sv h N 0 + h (N + 0) = T; rw [Nat.add_zero, hhN]; show 0 + T = T; omega
    rw [Nat.zero_add, hS, ← e1]
    unfold baseV
    rw [et, hbl, ← hN, ec]
    have hlast := g.last
    rw [hbl, ← hN] at hlast
    have hz : Yv F h (N + 1) + (outP s).l + 1 ≤ Zv F h (N + 1) + 1 := by rw [Zv_eq]; omega
    have hm : outC s.c s.l % 2 ^ (27 - T) < 2 ^ (27 - T) := Nat.mod_lt _ (Nat.two_pow_pos _)
    have hk : ((Yv F h (N + 1) + (outP s).l) * 2 ^ (27 - T) + outC s.c s.l % 2 ^ (27 - T)) < (Yv F h (N + 1) + (outP s).l + 1) * 2 ^ (27 - T) := by
      rw [Nat.add_mul _ 1, Nat.one_mul]; omega
    refine Nat.lt_of_lt_of_le (Nat.mul_lt_mul_of_pos_right hk (Nat.two_pow_pos T)) ?_
    rw [Nat.mul_assoc, ← Nat.pow_add, show 27 - T + T = 27 by omega]
    exact Nat.mul_le_mul_right _ hz
  have hup : ∀ r, 1 ≤ r → Zv F h (N + 1 + r) * 2 ^ 27 < (baseV F h s + s.a) * 2 ^ (0 + Sv h N (r + 1)) := by
    intro r hr
    have := g.up r hr
    rw [hbl, ← hN, e1, et] at this
    rw [Sv_front, hhN, Nat.zero_add]
    exact this
  refine ⟨fun i hi => ?_, ?_, by omega, fun r hr => ?_, fun r hr => ?_⟩
  · rw [g.ext i (by rw [hbl]; omega)]
    show (s.b ++ [_]).getD i 0 = _
    rw [List.getD_eq_getElem?_getD, List.getElem?_append_left hi, ← List.getD_eq_getElem?_getD]
  · rw [← hN, hFN]; exact outL_ge _ _
  · rw [ht, ← hN]
    cases r with
    | zero => omega
    | succ r =>
      cases r with
      | zero => exact hlow1
      | succ r =>
        have := g.low (r + 1) (by omega)
        rw [hbl, ← hN, e1, et] at this
        rw [Sv_front, hhN, Nat.zero_add, show N + (r + 1 + 1) = N + 1 + (r + 1) by omega]
        exact this
  · rw [ht, ← hN]
    cases r with
    | zero => omega
    | succ r =>
      cases r with
      | zero =>
        have := hup 1 (Nat.le_refl _)
        have e3 : Sv h N (1 + 1) = Sv h N (0 + 1) + h (N + 1) := rfl
        have e4 : Zv F h (N + 1 + 1) = Zv F h (N + 1) * 2 ^ h (N + 1) + F (N + 1 + 1) := rfl
        rw [e3, e4, ← Nat.add_assoc, Nat.pow_add, ← Nat.mul_assoc] at this
        have h5 : Zv F h (N + (0 + 1)) * 2 ^ 27 * 2 ^ h (N + 1) ≤ (Zv F h (N + 1) * 2 ^ h (N + 1) + F (N + 1 + 1)) * 2 ^ 27 := by
          rw [Nat.mul_assoc, Nat.mul_comm (2 ^ 27), ← Nat.mul_assoc]
          exact Nat.mul_le_mul_right _ (Nat.le_add_right _ _)
        exact Nat.lt_of_mul_lt_mul_right (Nat.lt_of_le_of_lt h5 this)
      | succ r =>
        have := hup (r + 1) (by omega)
        rw [show N + (r + 1 + 1) = N + 1 + (r + 1) by omega]
        exact this

end Go.Proofs.Ytkggdnkmaldmlaa

/- The decoder as plain functions. -/
namespace Go.Proofs.Ytkggdnkmaldmlaa
open Go.RowKit

structure Ds where
  a : Nat
  c : Nat
  t : Nat
  p : Nat
deriving DecidableEq

def byteD (B : List Nat) (i : Nat) : Nat := B.getD i 255
/-- A byte comes in. -/
def inD (B : List Nat) (s : Ds) : Ds :=
  if byteD B s.p ≠ 255 then { a := s.a, c := (s.c + byteD B (s.p + 1) * 256) % 4294967296, t := 8, p := s.p + 1 }
  else if 143 < byteD B (s.p + 1) then { a := s.a, c := (s.c + 65280) % 4294967296, t := 8, p := s.p }
  else { a := s.a, c := (s.c + byteD B (s.p + 1) * 512) % 4294967296, t := 7, p := s.p + 1 }
def inZ (B : List Nat) (s : Ds) : Ds := if s.t = 0 then inD B s else s
def twice (s : Ds) : Ds := { a := 2 * s.a, c := 2 * s.c % 4294967296, t := s.t - 1, p := s.p }
def doubledD (B : List Nat) (s : Ds) : Ds := twice (inZ B s)
def renewD (B : List Nat) : Nat → Ds → Ds
  | 0, s => s
  | n + 1, s => if (doubledD B s).a < 32768 then renewD B n (doubledD B s) else doubledD B s

def decS (s : Ds) (q : Nat) : Ds := if s.c / 65536 < q then { s with a := q } else { s with a := s.a - q, c := s.c - q * 65536 }
def decStay (s : Ds) (q : Nat) : Prop := ¬ (s.c / 65536 < q) ∧ 32768 ≤ s.a - q
instance (s : Ds) (q : Nat) : Decidable (decStay s q) := inferInstanceAs (Decidable (_ ∧ _))
def decLikely (s : Ds) (q : Nat) : Bool := decide (s.c / 65536 < q) == decide (s.a - q < q)
def decP (B : List Nat) (s : Ds) (x : Nat) : Ds := if decStay s (rQ (x / 2)) then decS s (rQ (x / 2)) else renewD B 16 (decS s (rQ (x / 2)))
def decX (s : Ds) (x : Nat) : Nat := if decStay s (rQ (x / 2)) then x else learnP (decLikely s (rQ (x / 2))) x
def decBit (s : Ds) (x : Nat) : Nat := if decStay s (rQ (x / 2)) then x % 2 else if decLikely s (rQ (x / 2)) then x % 2 else 1 - x % 2

theorem decBit_lt (s : Ds) (x : Nat) : decBit s x < 2 := by
  unfold decBit
  split
  · omega
  · split <;> omega

/-- What holds while it is renewed. -/
structure Dw (B : List Nat) (s : Ds) : Prop where
  apos : 1 ≤ s.a
  alt : s.a < 65536
  clt : s.c < 4294967296
  tlt : s.t ≤ 8
  plt : s.p ≤ B.length

theorem byteD_lt {B : List Nat} (hB : ∀ y ∈ B, y < 256) (i : Nat) : byteD B i < 256 := by
  unfold byteD
  rw [List.getD_eq_getElem?_getD]
  by_cases hi : i < B.length
  · rw [List.getElem?_eq_getElem hi]; exact hB _ (List.getElem_mem hi)
  · rw [List.getElem?_eq_none (by omega)]; decide
theorem byteD_past {B : List Nat} {i : Nat} (h : B.length ≤ i) : byteD B i = 255 := by
  unfold byteD
  rw [List.getD_eq_getElem?_getD, List.getElem?_eq_none h]; rfl

theorem inD_dw {B : List Nat} {s : Ds} (h : Dw B s) : Dw B (inD B s) ∧ (inD B s).a = s.a ∧ 7 ≤ (inD B s).t := by
  unfold inD
  split
  · rename_i hb
    refine ⟨⟨h.apos, h.alt, Nat.mod_lt _ (by decide), Nat.le_refl 8, ?_⟩, rfl, by show 7 ≤ 8; decide⟩
    show s.p + 1 ≤ B.length
    by_cases hp : s.p < B.length
    · omega
    · exact absurd (byteD_past (by omega)) hb
  · split
    · exact ⟨⟨h.apos, h.alt, Nat.mod_lt _ (by decide), Nat.le_refl 8, h.plt⟩, rfl, by show 7 ≤ 8; decide⟩
    · rename_i hn
      refine ⟨⟨h.apos, h.alt, Nat.mod_lt _ (by decide), by show 7 ≤ 8; decide, ?_⟩, rfl, by show 7 ≤ 7; decide⟩
      show s.p + 1 ≤ B.length
      by_cases hp : s.p + 1 < B.length
      · omega
      · exfalso; exact hn (by rw [byteD_past (by omega)]; decide)

theorem inZ_dw {B : List Nat} {s : Ds} (h : Dw B s) : Dw B (inZ B s) ∧ (inZ B s).a = s.a ∧ 1 ≤ (inZ B s).t := by
  unfold inZ
  split
  · have := inD_dw h
    exact ⟨this.1, this.2.1, by omega⟩
  · exact ⟨h, rfl, by omega⟩

theorem doubledD_dw {B : List Nat} {s : Ds} (h : Dw B s) (ha : s.a < 32768) : Dw B (doubledD B s) ∧ (doubledD B s).a = 2 * s.a := by
  obtain ⟨h1, h2, h3⟩ := inZ_dw h
  have h4 := h.apos
  have h5 := h1.tlt
  refine ⟨⟨?_, ?_, Nat.mod_lt _ (by decide), ?_, h1.plt⟩, ?_⟩
  · show 1 ≤ 2 * _; omega
  · show 2 * _ < 65536; omega
  · show _ - 1 ≤ 8; omega
  · show 2 * _ = 2 * _; rw [h2]

theorem renewD_dw {B : List Nat} : ∀ (n : Nat) (s : Ds), Dw B s → s.a < 32768 → 32768 ≤ s.a * 2 ^ n → Dw B (renewD B n s) ∧ 32768 ≤ (renewD B n s).a
  | 0, s, _, ha, hn => by omega
  | n + 1, s, h, ha, hn => by
    obtain ⟨hd, hda⟩ := doubledD_dw h ha
    unfold renewD
    split
    · rename_i hlt
      refine renewD_dw n _ hd hlt ?_
      rw [hda, Nat.mul_comm 2, Nat.mul_assoc, Nat.mul_comm 2, ← Nat.pow_succ]; exact hn
    · exact ⟨hd, by omega⟩

/-- What holds ahead of a decision. -/
structure Dok (B : List Nat) (s : Ds) : Prop where
  dw : Dw B s
  half : 32768 ≤ s.a

theorem decS_dw {B : List Nat} {s : Ds} (h : Dok B s) {q : Nat} (h1 : 1 ≤ q) (h2 : q ≤ 22017) : Dw B (decS s q) := by
  have hh := h.half
  unfold decS
  split
  · exact ⟨h1, by show q < 65536; omega, h.dw.clt, h.dw.tlt, h.dw.plt⟩
  · exact ⟨by show 1 ≤ s.a - q; omega, by have := h.dw.alt; show s.a - q < 65536; omega, by have := h.dw.clt; show s.c - _ < _; omega, h.dw.tlt, h.dw.plt⟩
theorem decS_a {B : List Nat} {s : Ds} (h : Dok B s) {q : Nat} (h2 : q ≤ 22017) (hs : ¬ decStay s q) : (decS s q).a < 32768 := by
  have hh := h.half
  unfold decStay at hs
  unfold decS
  split
  · show q < 32768; omega
  · show s.a - q < 32768; omega

theorem decP_ok {B : List Nat} {s : Ds} (h : Dok B s) {x : Nat} (hx : x < 94) : Dok B (decP B s x) := by
  obtain ⟨h1, h2⟩ := rQ_bd (x / 2) (by omega)
  have hw := decS_dw h h1 h2
  unfold decP
  split
  · rename_i hs
    refine ⟨hw, ?_⟩
    rw [decS, if_neg hs.1]; exact hs.2
  · rename_i hs
    obtain ⟨r1, r2⟩ := renewD_dw 16 _ hw (decS_a h h2 hs) (by have := hw.apos; omega)
    exact ⟨r1, r2⟩
theorem decX_lt (s : Ds) {x : Nat} (hx : x < 94) : decX s x < 94 := by
  unfold decX; split
  · exact hx
  · exact learnP_lt _ _ hx

/-- A decoder: its registers, its contexts, how many decisions were made. -/
structure De where
  s : Ds
  x : List Nat
  made : Nat

def newDs (B : List Nat) : Ds :=
  { inD B { a := 32768, c := byteD B 0 * 65536, t := 0, p := 0 } with
    c := (inD B { a := 32768, c := byteD B 0 * 65536, t := 0, p := 0 }).c * 128 % 4294967296, t := (inD B { a := 32768, c := byteD B 0 * 65536, t := 0, p := 0 }).t - 7 }
def newD (B : List Nat) (n : Nat) : De := { s := newDs B, x := List.replicate n 0, made := 0 }
def getP (B : List Nat) (o : De) (k : Int) : De :=
  { s := decP B o.s (o.x.getD (placeOf k o.x.length) 0), x := o.x.set (placeOf k o.x.length) (decX o.s (o.x.getD (placeOf k o.x.length) 0)), made := o.made + 1 }
def getBit (o : De) (k : Int) : Nat := decBit o.s (o.x.getD (placeOf k o.x.length) 0)

structure Eok (B : List Nat) (o : De) : Prop where
  ok : Dok B o.s
  pos : 0 < o.x.length
  lim : o.x.length ≤ 131072
  cells : ∀ y ∈ o.x, y < 94
  made : o.made ≤ 16777216
  bytes : ∀ y ∈ B, y < 256

theorem newDs_ok (B : List Nat) (hB : ∀ y ∈ B, y < 256) : Dok B (newDs B) := by
  have h0 : Dw B { a := 32768, c := byteD B 0 * 65536, t := 0, p := 0 } := by
    have := byteD_lt hB 0
    exact ⟨by show 1 ≤ 32768; decide, by show 32768 < 65536; decide, by show byteD B 0 * 65536 < _; omega, Nat.zero_le _, Nat.zero_le _⟩
  obtain ⟨h1, h2, h3⟩ := inD_dw h0
  have h4 := h1.tlt
  exact ⟨⟨h1.apos, h1.alt, Nat.mod_lt _ (by decide), by show _ - 7 ≤ 8; omega, h1.plt⟩, by show 32768 ≤ (inD B _).a; rw [h2]; exact Nat.le_refl _⟩
theorem newD_ok {B : List Nat} {n : Nat} (h : 0 < n) (h2 : n ≤ 131072) (hB : ∀ y ∈ B, y < 256) : Eok B (newD B n) := by
  refine ⟨newDs_ok B hB, by simpa [newD] using h, by simpa [newD] using h2, ?_, by simp [newD], hB⟩
  intro y hy
  simp [newD] at hy
  omega
theorem getP_ok {B : List Nat} {o : De} (h : Eok B o) (k : Int) (hm : o.made < 16777216) : Eok B (getP B o k) := by
  refine ⟨decP_ok h.ok (getD_lt h.cells _), ?_, ?_, ?_, ?_, h.bytes⟩
  · simpa [getP] using h.pos
  · simpa [getP] using h.lim
  · intro y hy
    simp only [getP] at hy
    rcases List.mem_or_eq_of_mem_set hy with hy | rfl
    · exact h.cells y hy
    · exact decX_lt _ (getD_lt h.cells _)
  · show o.made + 1 ≤ 16777216; omega

end Go.Proofs.Ytkggdnkmaldmlaa

/- What a coder's bytes say: through decisions, renewals and the flush. -/
namespace Go.Proofs.Ytkggdnkmaldmlaa

theorem Good.doubled {F h : Nat → Nat} {M : Nat} {s : Cs} (hh : ∀ i, i < M → h i = outT (F i)) (hw : Cw s) (g : Good F h M (doubled s)) :
    Good F h M s ∧ baseV F h (doubled s) = 2 * baseV F h s ∧ (s.t = 1 → (doubled s).b.length = s.b.length + 1 ∧ (doubled s).t = h s.b.length) ∧ (s.t ≠ 1 → (doubled s).b.length = s.b.length ∧ (doubled s).t = s.t - 1) := by
  have h1 := hw.c_lt
  have h2 := hw.apos
  have h3 := hw.tpos
  have h4 := hw.tlt
  by_cases ht : s.t = 1
  · have e : Go.Proofs.Ytkggdnkmaldmlaa.doubled s = outP { s with a := 2 * s.a, c := 2 * s.c, t := 0 } := by simp [Go.Proofs.Ytkggdnkmaldmlaa.doubled, ht]
    rw [e] at g ⊢
    have hbl : (outP { s with a := 2 * s.a, c := 2 * s.c, t := 0 }).b.length = s.b.length + 1 := by simp [outP]
    have hM : s.b.length < M := by have := g.le; rw [hbl] at this; omega
    obtain ⟨b1, b2⟩ := g.out_base hh rfl (by show 2 * s.c < _; omega) hM
    have g2 := g.out hh rfl (by show 2 * s.c < _; omega) hM
    have hb : baseV F h { s with a := 2 * s.a, c := 2 * s.c, t := 0 } = 2 * baseV F h s := by
      unfold baseV
      rw [ht]
      simp only []
      generalize Yv F h s.b.length + s.l = V
      rw [show 27 - 0 = (27 - 1) + 1 from rfl, Nat.pow_succ]; omega
    refine ⟨g2.shift 1 rfl rfl (by rw [ht]) (by omega) (by show 2 * s.c = _; omega) (by show 2 * s.a = _; omega), by rw [b1, hb], fun _ => ⟨hbl, b2.symm⟩, fun hn => absurd ht hn⟩
  · have e : Go.Proofs.Ytkggdnkmaldmlaa.doubled s = { s with a := 2 * s.a, c := 2 * s.c, t := s.t - 1 } := by simp [Go.Proofs.Ytkggdnkmaldmlaa.doubled, ht]
    rw [e] at g ⊢
    have hb : baseV F h { s with a := 2 * s.a, c := 2 * s.c, t := s.t - 1 } = 2 * baseV F h s := by
      unfold baseV
      simp only []
      generalize Yv F h s.b.length + s.l = V
      rw [show 27 - (s.t - 1) = (27 - s.t) + 1 by omega, Nat.pow_succ, Nat.mul_add, ← Nat.mul_assoc, Nat.mul_comm (V * 2 ^ (27 - s.t)) 2]
    exact ⟨g.shift 1 rfl rfl (by show s.t = s.t - 1 + 1; omega) (by omega) (by show 2 * s.c = _; omega) (by show 2 * s.a = _; omega), hb, fun hn => absurd hn ht, fun _ => ⟨rfl, rfl⟩⟩

theorem Good.renew {F h : Nat → Nat} {M : Nat} (hh : ∀ i, i < M → h i = outT (F i)) : ∀ (n : Nat) (s : Cs), Cw s → s.a < 32768 → 32768 ≤ s.a * 2 ^ n → Good F h M (renewP n s) → Good F h M (Go.Proofs.Ytkggdnkmaldmlaa.doubled s) ∧ Good F h M s
  | 0, s, _, ha, hn, _ => by omega
  | n + 1, s, hw, ha, hn, g => by
    have hd := doubled_cw hw ha
    have gd : Good F h M (Go.Proofs.Ytkggdnkmaldmlaa.doubled s) := by
      unfold renewP at g
      split at g
      · rename_i hlt
        refine (Good.renew hh n _ hd hlt ?_ g).2
        rw [doubled_a, Nat.mul_comm 2, Nat.mul_assoc, Nat.mul_comm 2, ← Nat.pow_succ]; exact hn
      · exact g
    exact ⟨gd, (gd.doubled hh hw).1⟩

theorem Good.code {F h : Nat → Nat} {M : Nat} {s : Cs} (hh : ∀ i, i < M → h i = outT (F i)) (hok : Cok s) {x : Nat} (hx : x < 94) (bit : Nat) (g : Good F h M (codeP s x bit)) : Good F h M s := by
  obtain ⟨q1, q2⟩ := rQ_bd (x / 2) (by omega)
  have hha := hok.half
  unfold codeP at g
  split at g
  · exact g.shrink rfl rfl rfl (by show s.c ≤ s.c + _; omega) (by show s.c + _ + (s.a - _) ≤ s.c + s.a; omega)
  · rename_i hc
    have hw := codeS_cw hok q1 q2 (decide (bit = x % 2))
    have ha := codeS_a hok q1 q2 (decide (bit = x % 2)) (by rw [decide_eq_true_eq]; exact hc)
    have gs := (Good.renew hh 16 _ hw ha (by have := hw.apos; omega) g).2
    unfold codeS at gs
    split at gs
    · exact gs.shrink rfl rfl rfl (Nat.le_refl _) (by show s.c + rQ (x / 2) ≤ s.c + s.a; omega)
    · exact gs.shrink rfl rfl rfl (by show s.c ≤ s.c + _; omega) (by show s.c + _ + (s.a - _) ≤ s.c + s.a; omega)

/-- No byte above 8f behind an ff. -/
structure Wb (s : Cs) : Prop where
  room : (s.c + s.a) * 2 ^ s.t < 150994944
  pairs : ∀ i, i + 1 < s.b.length → s.b.getD i 0 = 255 → s.b.getD (i + 1) 0 ≤ 143
  top : ∀ i, i + 1 = s.b.length → s.b.getD i 0 = 255 → s.l * 2 ^ (27 - s.t) + s.c + s.a ≤ 144 * 2 ^ (27 - s.t)

theorem Wb.shrink {s s' : Cs} (g : Wb s) (hb : s'.b = s.b) (hl : s'.l = s.l) (ht : s'.t = s.t) (h2 : s'.c + s'.a ≤ s.c + s.a) : Wb s' := by
  refine ⟨?_, by rw [hb]; exact g.pairs, fun i hi h => ?_⟩
  · rw [ht]; exact Nat.lt_of_le_of_lt (Nat.mul_le_mul_right _ h2) g.room
  · rw [hb] at hi h
    have := g.top i hi h
    rw [ht, hl]; omega
theorem Wb.shift {s s' : Cs} (k : Nat) (g : Wb s) (hb : s'.b = s.b) (hl : s'.l = s.l) (ht : s.t = s'.t + k) (ht2 : s.t ≤ 27) (hc : s'.c = s.c * 2 ^ k) (ha : s'.a = s.a * 2 ^ k) : Wb s' := by
  refine ⟨?_, by rw [hb]; exact g.pairs, fun i hi h => ?_⟩
  · rw [hc, ha, ← Nat.add_mul, Nat.mul_assoc, ← Nat.pow_add, show k + s'.t = s.t by omega]; exact g.room
  · rw [hb] at hi h
    have := Nat.mul_le_mul_right (2 ^ k) (g.top i hi h)
    rw [Nat.add_mul, Nat.add_mul, Nat.mul_assoc, Nat.mul_assoc, ← Nat.pow_add] at this
    rw [hl, hc, ha, show 27 - s'.t = 27 - s.t + k by omega]; exact this
theorem Wb.last {s : Cs} (g : Wb s) (hpos : 1 ≤ s.a) (i : Nat) (hi : i + 1 = s.b.length) (h : s.b.getD i 0 = 255) : s.l ≤ 143 := by
  have := g.top i hi h
  have hp := Nat.two_pow_pos (27 - s.t)
  have : s.l * 2 ^ (27 - s.t) < 144 * 2 ^ (27 - s.t) := by omega
  have := Nat.lt_of_mul_lt_mul_right this
  omega

theorem getD_snoc (l : List Nat) (x i : Nat) : (l ++ [x]).getD i 0 = if i = l.length then x else l.getD i 0 := by
  rw [List.getD_eq_getElem?_getD, List.getD_eq_getElem?_getD]
  by_cases h : i < l.length
  · rw [List.getElem?_append_left h, if_neg (by omega)]
  · rw [List.getElem?_append_right (by omega)]
    by_cases h2 : i = l.length
    · rw [if_pos h2, h2, Nat.sub_self]; rfl
    · rw [if_neg h2, List.getElem?_eq_none (by simp; omega), List.getElem?_eq_none (by omega)]

theorem Wb.out {s : Cs} (g : Wb s) (ht : s.t = 0) (hpos : 1 ≤ s.a) :
    (∀ i, i + 1 < (outP s).b.length → (outP s).b.getD i 0 = 255 → (outP s).b.getD (i + 1) 0 ≤ 143) ∧ (∀ i, i + 1 = (outP s).b.length → (outP s).b.getD i 0 = 255 → (outP s).l * 2 ^ (27 - (outP s).t) + (outP s).c + s.a ≤ 144 * 2 ^ (27 - (outP s).t)) := by
  have hr := g.room
  rw [ht, Nat.pow_zero, Nat.mul_one] at hr
  have hbl : (outP s).b.length = s.b.length + 1 := by simp [outP]
  have hg : ∀ i, (outP s).b.getD i 0 = if i = s.b.length then outL s.c s.l else s.b.getD i 0 := fun i => getD_snoc _ _ _
  refine ⟨fun i hi h => ?_, fun i hi h => ?_⟩
  · rw [hbl] at hi
    rw [hg, if_neg (by omega)] at h
    rw [hg]
    by_cases h2 : i + 1 = s.b.length
    · rw [if_pos h2]
      have ht2 := g.top i h2 h
      rw [ht] at ht2
      have e : (2 : Nat) ^ (27 - 0) = 134217728 := rfl
      rw [e] at ht2
      unfold outL
      split
      · rename_i hc; have := hc.1; omega
      · omega
    · rw [if_neg h2]; exact g.pairs i (by omega) h
  · rw [hbl] at hi
    rw [hg, if_pos (by omega)] at h
    have hT : (outP s).t = 7 := by show outT (outL s.c s.l) = 7; rw [h]; rfl
    have hlo : outLow (outL s.c s.l) = 20 := by rw [h]; rfl
    have hcl : outC s.c s.l ≤ s.c := by unfold outC; split <;> omega
    have ec : (outP s).c = outC s.c s.l % 2 ^ 20 := by show outC s.c s.l % 2 ^ outLow _ = _; rw [hlo]
    have el : (outP s).l = outC s.c s.l / 2 ^ 20 % 256 := by show outC s.c s.l / 2 ^ outLow _ % 256 = _; rw [hlo]
    rw [hT, ec, el, show 27 - 7 = 20 from rfl, show (2 : Nat) ^ 20 = 1048576 from rfl]
    omega

theorem Wb.out' {s : Cs} (g : Wb s) (ht : s.t = 0) (hpos : 1 ≤ s.a) (ha : s.a < 65536) : Wb (outP s) := by
  obtain ⟨h1, h2⟩ := g.out ht hpos
  refine ⟨?_, h1, h2⟩
  show (outC s.c s.l % 2 ^ outLow (outL s.c s.l) + s.a) * 2 ^ outT (outL s.c s.l) < 150994944
  unfold outLow outT
  split
  · have : outC s.c s.l % 2 ^ 20 < 2 ^ 20 := Nat.mod_lt _ (by decide)
    omega
  · have : outC s.c s.l % 2 ^ 19 < 2 ^ 19 := Nat.mod_lt _ (by decide)
    omega

theorem Wb.doubled {s : Cs} (g : Wb s) (hw : Cw s) (ha : s.a < 32768) : Wb (Go.Proofs.Ytkggdnkmaldmlaa.doubled s) := by
  have h2 := hw.apos
  have h3 := hw.tpos
  have h4 := hw.tlt
  unfold Go.Proofs.Ytkggdnkmaldmlaa.doubled
  split
  · rename_i ht
    refine Wb.out' (s := { s with a := 2 * s.a, c := 2 * s.c, t := 0 }) (g.shift 1 rfl rfl (by rw [ht]) (by omega) (by show 2 * s.c = _; omega) (by show 2 * s.a = _; omega)) rfl (by show 1 ≤ 2 * s.a; omega) (by show 2 * s.a < 65536; omega)
  · exact g.shift 1 rfl rfl (by show s.t = s.t - 1 + 1; omega) (by omega) (by show 2 * s.c = _; omega) (by show 2 * s.a = _; omega)
theorem Wb.renew : ∀ (n : Nat) (s : Cs), Wb s → Cw s → s.a < 32768 → Wb (renewP n s)
  | 0, s, g, _, _ => g
  | n + 1, s, g, hw, ha => by
    unfold renewP
    split
    · rename_i hlt
      exact Wb.renew n _ (g.doubled hw ha) (doubled_cw hw ha) hlt
    · exact g.doubled hw ha
theorem Wb.code {s : Cs} (g : Wb s) (hok : Cok s) {x : Nat} (hx : x < 94) (bit : Nat) : Wb (codeP s x bit) := by
  obtain ⟨q1, q2⟩ := rQ_bd (x / 2) (by omega)
  have hha := hok.half
  unfold codeP
  split
  · exact g.shrink rfl rfl rfl (by show s.c + _ + (s.a - _) ≤ s.c + s.a; omega)
  · rename_i hc
    have hw := codeS_cw hok q1 q2 (decide (bit = x % 2))
    have ha := codeS_a hok q1 q2 (decide (bit = x % 2)) (by rw [decide_eq_true_eq]; exact hc)
    refine Wb.renew 16 _ ?_ hw ha
    unfold codeS
    split
    · exact g.shrink rfl rfl rfl (by show s.c + rQ (x / 2) ≤ s.c + s.a; omega)
    · exact g.shrink rfl rfl rfl (by show s.c + _ + (s.a - _) ≤ s.c + s.a; omega)

end Go.Proofs.Ytkggdnkmaldmlaa
