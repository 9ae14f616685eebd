/- The decoder as plain functions. -/
import Derived.Test.YtllhekkclhcdbaaDoorK1
namespace Go.Proofs.YtllhekkclhcdbaaDoor
open Go.RowKit

structure Ds where
  a : Nat
  c : Nat
  t : Nat
  p : Nat
deriving DecidableEq

def byteD (B : List Nat) (i : Nat) : Nat := B.getD i 255
/-- A byte comes in. -/
def inD (B : List Nat) (s : Ds) : Ds :=
  if byteD B s.p ≠ 255 then { a := s.a, c := (s.c + byteD B (s.p + 1) * 256) % 4294967296, t := 8, p := s.p + 1 }
  else if 143 < byteD B (s.p + 1) then { a := s.a, c := (s.c + 65280) % 4294967296, t := 8, p := s.p }
  else { a := s.a, c := (s.c + byteD B (s.p + 1) * 512) % 4294967296, t := 7, p := s.p + 1 }
def inZ (B : List Nat) (s : Ds) : Ds := if s.t = 0 then inD B s else s
def twice (s : Ds) : Ds := { a := 2 * s.a, c := 2 * s.c % 4294967296, t := s.t - 1, p := s.p }
def doubledD (B : List Nat) (s : Ds) : Ds := twice (inZ B s)
def renewD (B : List Nat) : Nat → Ds → Ds
  | 0, s => s
  | n + 1, s => if (doubledD B s).a < 32768 then renewD B n (doubledD B s) else doubledD B s

def decS (s : Ds) (q : Nat) : Ds := if s.c / 65536 < q then { s with a := q } else { s with a := s.a - q, c := s.c - q * 65536 }
def decStay (s : Ds) (q : Nat) : Prop := ¬ (s.c / 65536 < q) ∧ 32768 ≤ s.a - q
instance (s : Ds) (q : Nat) : Decidable (decStay s q) := inferInstanceAs (Decidable (_ ∧ _))
def decLikely (s : Ds) (q : Nat) : Bool := decide (s.c / 65536 < q) == decide (s.a - q < q)
def decP (B : List Nat) (s : Ds) (x : Nat) : Ds := if decStay s (rQ (x / 2)) then decS s (rQ (x / 2)) else renewD B 16 (decS s (rQ (x / 2)))
def decX (s : Ds) (x : Nat) : Nat := if decStay s (rQ (x / 2)) then x else learnP (decLikely s (rQ (x / 2))) x
def decBit (s : Ds) (x : Nat) : Nat := if decStay s (rQ (x / 2)) then x % 2 else if decLikely s (rQ (x / 2)) then x % 2 else 1 - x % 2

theorem decBit_lt (s : Ds) (x : Nat) : decBit s x < 2 := by
  unfold decBit
  split
  · omega
  · split <;> omega

/-- What holds while it is renewed. -/
structure Dw (B : List Nat) (s : Ds) : Prop where
  apos : 1 ≤ s.a
  alt : s.a < 65536
  clt : s.c < 4294967296
  tlt : s.t ≤ 8
  plt : s.p ≤ B.length

theorem byteD_lt {B : List Nat} (hB : ∀ y ∈ B, y < 256) (i : Nat) : byteD B i < 256 := by
  unfold byteD
  rw [List.getD_eq_getElem?_getD]
  by_cases hi : i < B.length
  · rw [List.getElem?_eq_getElem hi]; exact hB _ (List.getElem_mem hi)
  · rw [List.getElem?_eq_none (by omega)]; decide
theorem byteD_past {B : List Nat} {i : Nat} (h : B.length ≤ i) : byteD B i = 255 := by
  unfold byteD
  rw [List.getD_eq_getElem?_getD, List.getElem?_eq_none h]; rfl

theorem inD_dw {B : List Nat} {s : Ds} (h : Dw B s) : Dw B (inD B s) ∧ (inD B s).a = s.a ∧ 7 ≤ (inD B s).t := by
  unfold inD
  split
  · rename_i hb
    refine ⟨⟨h.apos, h.alt, Nat.mod_lt _ (by decide), Nat.le_refl 8, ?_⟩, rfl, by show 7 ≤ 8; decide⟩
    show s.p + 1 ≤ B.length
    by_cases hp : s.p < B.length
    · omega
    · exact absurd (byteD_past (by omega)) hb
  · split
    · exact ⟨⟨h.apos, h.alt, Nat.mod_lt _ (by decide), Nat.le_refl 8, h.plt⟩, rfl, by show 7 ≤ 8; decide⟩
    · rename_i hn
      refine ⟨⟨h.apos, h.alt, Nat.mod_lt _ (by decide), by show 7 ≤ 8; decide, ?_⟩, rfl, by show 7 ≤ 7; decide⟩
      show s.p + 1 ≤ B.length
      by_cases hp : s.p + 1 < B.length
      · omega
      · exfalso; exact hn (by rw [byteD_past (by omega)]; decide)

theorem inZ_dw {B : List Nat} {s : Ds} (h : Dw B s) : Dw B (inZ B s) ∧ (inZ B s).a = s.a ∧ 1 ≤ (inZ B s).t := by
  unfold inZ
  split
  · have := inD_dw h
    exact ⟨this.1, this.2.1, by omega⟩
  · exact ⟨h, rfl, by omega⟩

theorem doubledD_dw {B : List Nat} {s : Ds} (h : Dw B s) (ha : s.a < 32768) : Dw B (doubledD B s) ∧ (doubledD B s).a = 2 * s.a := by
  obtain ⟨h1, h2, h3⟩ := inZ_dw h
  have h4 := h.apos
  have h5 := h1.tlt
  refine ⟨⟨?_, ?_, Nat.mod_lt _ (by decide), ?_, h1.plt⟩, ?_⟩
  · show 1 ≤ 2 * _; omega
  · show 2 * _ < 65536; omega
  · show _ - 1 ≤ 8; omega
  · show 2 * _ = 2 * _; rw [h2]

theorem renewD_dw {B : List Nat} : ∀ (n : Nat) (s : Ds), Dw B s → s.a < 32768 → 32768 ≤ s.a * 2 ^ n → Dw B (renewD B n s) ∧ 32768 ≤ (renewD B n s).a
  | 0, s, _, ha, hn => by omega
  | n + 1, s, h, ha, hn => by
    obtain ⟨hd, hda⟩ := doubledD_dw h ha
    unfold renewD
    split
    · rename_i hlt
      refine renewD_dw n _ hd hlt ?_
      rw [hda, Nat.mul_comm 2, Nat.mul_assoc, Nat.mul_comm 2, ← Nat.pow_succ]; exact hn
    · exact ⟨hd, by omega⟩

/-- What holds ahead of a decision. -/
structure Dok (B : List Nat) (s : Ds) : Prop where
  dw : Dw B s
  half : 32768 ≤ s.a

theorem decS_dw {B : List Nat} {s : Ds} (h : Dok B s) {q : Nat} (h1 : 1 ≤ q) (h2 : q ≤ 22017) : Dw B (decS s q) := by
  have hh := h.half
  unfold decS
  split
  · exact ⟨h1, by show q < 65536; omega, h.dw.clt, h.dw.tlt, h.dw.plt⟩
  · exact ⟨by show 1 ≤ s.a - q; omega, by have := h.dw.alt; show s.a - q < 65536; omega, by have := h.dw.clt; show s.c - _ < _; omega, h.dw.tlt, h.dw.plt⟩
theorem decS_a {B : List Nat} {s : Ds} (h : Dok B s) {q : Nat} (h2 : q ≤ 22017) (hs : ¬ decStay s q) : (decS s q).a < 32768 := by
  have hh := h.half
  unfold decStay at hs
  unfold decS
  split
  · show q < 32768; omega
  · show s.a - q < 32768; omega

theorem decP_ok {B : List Nat} {s : Ds} (h : Dok B s) {x : Nat} (hx : x < 94) : Dok B (decP B s x) := by
  obtain ⟨h1, h2⟩ := rQ_bd (x / 2) (by omega)
  have hw := decS_dw h h1 h2
  unfold decP
  split
  · rename_i hs
    refine ⟨hw, ?_⟩
    rw [decS, if_neg hs.1]; exact hs.2
  · rename_i hs
    obtain ⟨r1, r2⟩ := renewD_dw 16 _ hw (decS_a h h2 hs) (by have := hw.apos; omega)
    exact ⟨r1, r2⟩
theorem decX_lt (s : Ds) {x : Nat} (hx : x < 94) : decX s x < 94 := by
  unfold decX; split
  · exact hx
  · exact learnP_lt _ _ hx

/-- A decoder: its registers, its contexts, how many decisions were made. -/
structure De where
  s : Ds
  x : List Nat
  made : Nat

def newDs (B : List Nat) : Ds :=
  { inD B { a := 32768, c := byteD B 0 * 65536, t := 0, p := 0 } with
    c := (inD B { a := 32768, c := byteD B 0 * 65536, t := 0, p := 0 }).c * 128 % 4294967296, t := (inD B { a := 32768, c := byteD B 0 * 65536, t := 0, p := 0 }).t - 7 }
def newD (B : List Nat) (n : Nat) : De := { s := newDs B, x := List.replicate n 0, made := 0 }
def getP (B : List Nat) (o : De) (k : Int) : De :=
  { s := decP B o.s (o.x.getD (placeOf k o.x.length) 0), x := o.x.set (placeOf k o.x.length) (decX o.s (o.x.getD (placeOf k o.x.length) 0)), made := o.made + 1 }
def getBit (o : De) (k : Int) : Nat := decBit o.s (o.x.getD (placeOf k o.x.length) 0)

structure Eok (B : List Nat) (o : De) : Prop where
  ok : Dok B o.s
  pos : 0 < o.x.length
  lim : o.x.length ≤ 131072
  cells : ∀ y ∈ o.x, y < 94
  made : o.made ≤ 16777216
  bytes : ∀ y ∈ B, y < 256

theorem newDs_ok (B : List Nat) (hB : ∀ y ∈ B, y < 256) : Dok B (newDs B) := by
  have h0 : Dw B { a := 32768, c := byteD B 0 * 65536, t := 0, p := 0 } := by
    have := byteD_lt hB 0
    exact ⟨by show 1 ≤ 32768; decide, by show 32768 < 65536; decide, by show byteD B 0 * 65536 < _; omega, Nat.zero_le _, Nat.zero_le _⟩
  obtain ⟨h1, h2, h3⟩ := inD_dw h0
  have h4 := h1.tlt
  exact ⟨⟨h1.apos, h1.alt, Nat.mod_lt _ (by decide), by show _ - 7 ≤ 8; omega, h1.plt⟩, by show 32768 ≤ (inD B _).a; rw [h2]; exact Nat.le_refl _⟩
theorem newD_ok {B : List Nat} {n : Nat} (h : 0 < n) (h2 : n ≤ 131072) (hB : ∀ y ∈ B, y < 256) : Eok B (newD B n) := by
  refine ⟨newDs_ok B hB, by simpa [newD] using h, by simpa [newD] using h2, ?_, by simp [newD], hB⟩
  intro y hy
  simp [newD] at hy
  omega
theorem getP_ok {B : List Nat} {o : De} (h : Eok B o) (k : Int) (hm : o.made < 16777216) : Eok B (getP B o k) := by
  refine ⟨decP_ok h.ok (getD_lt h.cells _), ?_, ?_, ?_, ?_, h.bytes⟩
  · simpa [getP] using h.pos
  · simpa [getP] using h.lim
  · intro y hy
    simp only [getP] at hy
    rcases List.mem_or_eq_of_mem_set hy with hy | rfl
    · exact h.cells y hy
    · exact decX_lt _ (getD_lt h.cells _)
  · show o.made + 1 ≤ 16777216; omega

end Go.Proofs.YtllhekkclhcdbaaDoor
