/- What was coded is decoded. -/
import Derived.Test.YtkggdnkmaldmlaaK6
import Derived.Test.YtkggdnkmaldmlaaK14
import Derived.Test.YtkggdnkmaldmlaaK1
import Derived.Test.YtkggdnkmaldmlaaK4
namespace Go.Proofs.Ytkggdnkmaldmlaa

def decRun (B : List Nat) (n : Nat) (K : Nat → Int) : Nat → De
  | 0 => newD B n
  | k + 1 => getP B (decRun B n K k) (K k)

theorem decRun_ok {n : Nat} (h1 : 1 ≤ n) (h2 : n ≤ 131072) {B : List Nat} (hB : ∀ y ∈ B, y < 256) (K : Nat → Int) : ∀ k, k ≤ 16777216 → Eok B (decRun B n K k) ∧ (decRun B n K k).made = k
  | 0, _ => ⟨newD_ok h1 h2 hB, rfl⟩
  | k + 1, h => by
    obtain ⟨a, b⟩ := decRun_ok h1 h2 hB K k (by omega)
    exact ⟨getP_ok a _ (by omega), by show (decRun B n K k).made + 1 = _; omega⟩

theorem flush_cw {s : Cs} (hw : Cw s) : Cw (flush1 s) ∧ Cw (flush2 s) := by
  have h1 : Cw (flush1 s) := outP_cw (s := { s with c := flushC s.c s.a * 2 ^ s.t }) hw.apos hw.alt hw.llt hw.blt
  exact ⟨h1, outP_cw (s := { flush1 s with c := (flush1 s).c * 2 ^ (flush1 s).t }) h1.apos h1.alt h1.llt h1.blt⟩

theorem flush_two (s : Cs) : (flush2 s).b.length = s.b.length + 2 := by simp [flush2, flush1, outP]

theorem endF_lt {s : Cs} (hw : Cw s) (i : Nat) : endF s i < 256 := by
  have h2 := (flush_cw hw).2
  unfold endF
  split
  · rw [getD_snoc]
    split
    · exact h2.llt
    · rw [List.getD_eq_getElem?_getD]
      by_cases h : i < (flush2 s).b.length
      · rw [List.getElem?_eq_getElem h]; exact h2.blt _ (List.getElem_mem h)
      · rw [List.getElem?_eq_none (by omega)]; decide
  · decide

theorem reads_flush {s : Cs} (hok : Cok s) (hb : Wb s) : Reads (endF s) (endH s) (flush2 s).b.length (flushP s) := by
  have hl2 := flush_two s
  have hlen : ((flush2 s).l = 255 → (flushP s).length = (flush2 s).b.length - 1) ∧ ((flush2 s).l ≠ 255 → (flushP s).length = (flush2 s).b.length) := by
    unfold flushP
    constructor
    · intro h; rw [if_pos h]; simp
    · intro h; rw [if_neg h]; simp
  have hpast : ∀ i, (flushP s).length < i → endF s i = 255 := by
    intro i hi
    by_cases h : (flush2 s).l = 255
    · have := hlen.1 h
      by_cases h2 : i = (flush2 s).b.length
      · rw [h2, endF_l, h]
      · exact endF_past s i (by omega)
    · have := hlen.2 h
      exact endF_past s i (by omega)
  refine ⟨fun i => ?_, endF_lt hok.cw, hpast, ?_, ?_, ?_, flush_pairs hok hb, endH_in s, fun i hi => by unfold endH; rw [if_neg (by omega)]⟩
  · by_cases hi : i < (flushP s).length
    · unfold byteD
      rw [List.getD_eq_getElem?_getD, List.getElem?_eq_getElem hi]
      show (flushP s)[i] = _
      have e : (flushP s)[i]? = ((flush2 s).b ++ [(flush2 s).l])[i + 1]? := by
        unfold flushP
        split
        · rename_i h
          have := hlen.1 h
          rw [List.getElem?_drop, List.getElem?_append_left (by omega), Nat.add_comm]
        · rw [List.getElem?_drop, Nat.add_comm]
      have hle : i + 1 ≤ (flush2 s).b.length := by
        by_cases h : (flush2 s).l = 255
        · have := hlen.1 h; omega
        · have := hlen.2 h; omega
      rw [List.getElem?_eq_getElem hi] at e
      unfold endF
      rw [if_pos hle, List.getD_eq_getElem?_getD, ← e]; rfl
    · rw [byteD_past (by omega), hpast (i + 1) (by omega)]
  · by_cases h : (flush2 s).l = 255
    · have := hlen.1 h; omega
    · have := hlen.2 h; omega
  · intro h
    by_cases h2 : (flush2 s).l = 255
    · rw [endF_l, h2]
    · have := hlen.2 h2; omega
  · intro h
    rw [endF_l]
    intro h2
    have := hlen.1 h2; omega

theorem newP_wb (n : Nat) : Wb (newP n).s := ⟨by show (0 + 32768) * 2 ^ 12 < 150994944; decide, by intro i hi; simp [newP] at hi, by intro i hi; simp [newP] at hi⟩
theorem runC_wb {n : Nat} (h1 : 1 ≤ n) (h2 : n ≤ 131072) (K : Nat → Int) (D : Nat → Nat) : ∀ k, k ≤ 16777216 → Wb (runC n K D k).s
  | 0, _ => newP_wb n
  | k + 1, h => by
    obtain ⟨ok, _, _⟩ := runC_ok h1 h2 K D k (by omega)
    exact (runC_wb h1 h2 K D k (by omega)).code ok.ok (getD_lt ok.cells _) _

theorem runC_good {n : Nat} (h1 : 1 ≤ n) (h2 : n ≤ 131072) (K : Nat → Int) (D : Nat → Nat) {F h : Nat → Nat} {M : Nat} (hh : ∀ i, i < M → h i = outT (F i)) {m : Nat} (hm : m ≤ 16777216) (g : Good F h M (runC n K D m).s) : ∀ i, i ≤ m → Good F h M (runC n K D (m - i)).s
  | 0, _ => g
  | i + 1, hi => by
    have gi := runC_good h1 h2 K D hh hm g i (by omega)
    obtain ⟨ok, _, _⟩ := runC_ok h1 h2 K D (m - (i + 1)) (by omega)
    rw [show m - i = (m - (i + 1)) + 1 by omega] at gi
    exact Good.code hh ok.ok (getD_lt ok.cells _) _ gi

/-- At first. -/
theorem Sim.first {F h : Nat → Nat} {M : Nat} {B : List Nat} (R : Reads F h M B) (n : Nat) (hM : 2 ≤ M) (g : Good F h M (newP n).s) : Sim F h B (newP n).s (newDs B) 2 := by
  have hs : (newP n).s = { a := 32768, c := 0, t := 12, b := [], l := 0 } := rfl
  have hb0 : baseV F h (newP n).s = 0 := by simp [baseV, Yv, newP]
  obtain ⟨k7, k8⟩ := R.h_bd 0
  obtain ⟨j7, j8⟩ := R.h_bd 1
  have hu := g.up 1 (Nat.le_refl _)
  rw [hb0] at hu
  have hS1 : Sv h 0 1 = h 0 := by simp [Sv]
  have hu2 : Zv F h 1 * 2 ^ 27 < (0 + 32768) * 2 ^ (12 + h 0) := by
    have : Zv F h (0 + 1) * 2 ^ 27 < (0 + 32768) * 2 ^ (12 + Sv h 0 1) := hu
    rw [hS1] at this; exact this
  have hz1 : Zv F h 1 = F 0 * 2 ^ h 0 + F 1 := rfl
  have hF0 : F 0 = 0 ∧ h 0 = 8 := by
    have hh := R.sh 0 (by omega)
    by_cases h255 : F 0 = 255
    · rw [h255] at hh
      have e7 : h 0 = 7 := hh
      rw [hz1, e7, h255] at hu2
      exfalso
      have a1 : (2 : Nat) ^ 27 = 134217728 := rfl
      have a2 : (2 : Nat) ^ (12 + 7) = 524288 := rfl
      have a3 : (2 : Nat) ^ 7 = 128 := rfl
      rw [a1, a2, a3] at hu2
      omega
    · have e8 : h 0 = 8 := by rw [hh]; unfold outT; rw [if_neg h255]
      rw [hz1, e8] at hu2
      have a1 : (2 : Nat) ^ 27 = 134217728 := rfl
      have a2 : (2 : Nat) ^ (12 + 8) = 1048576 := rfl
      have a3 : (2 : Nat) ^ 8 = 256 := rfl
      rw [a1, a2, a3] at hu2
      exact ⟨by omega, e8⟩
  have hb1 : byteD B 0 = F 1 := R.bytes 0
  have hf1 := R.lt 1
  have hf2 := R.lt 2
  have hin := R.inD { a := 32768, c := byteD B 0 * 65536, t := 0, p := 0 } 1 (Nat.le_refl _) (by show 0 = min (1 - 1) B.length; simp)
  have hz2 : Zv F h 2 = F 1 * 2 ^ h 1 + F 2 := by
    show Zv F h 1 * 2 ^ h 1 + F 2 = _
    rw [hz1, hF0.1, Nat.zero_mul, Nat.zero_add]
  have hn : newDs B = { a := 32768, c := (F 1 * 65536 + F 2 * 2 ^ (16 - h 1)) % 4294967296 * 128 % 4294967296, t := h 1 - 7, p := min 1 B.length } := by
    unfold newDs
    rw [hin, hb1]
  have hle : F 2 * 2 ^ (16 - h 1) ≤ 255 * 512 := by
    have : 2 ^ (16 - h 1) ≤ 2 ^ 9 := Nat.pow_le_pow_right (by decide) (by omega)
    have e9 : (2 : Nat) ^ 9 = 512 := rfl
    rw [e9] at this
    exact Nat.mul_le_mul (by omega) this
  have hc : (F 1 * 65536 + F 2 * 2 ^ (16 - h 1)) % 4294967296 * 128 % 4294967296 = (F 1 * 65536 + F 2 * 2 ^ (16 - h 1)) * 128 := by
    generalize F 2 * 2 ^ (16 - h 1) = y at hle ⊢
    omega
  rw [hn, hc]
  refine ⟨rfl, by simp [newP], ?_, ?_, by show min 1 B.length = min (2 - 1) B.length; rfl, by show h 1 - 7 ≤ 8; omega⟩
  · rw [hs]
    show 12 + Sv h 0 2 = 27 + (h 1 - 7)
    have : Sv h 0 2 = h 0 + h 1 := by simp [Sv]
    rw [this, hF0.2]; omega
  · rw [hb0, hz2]
    show (F 1 * 65536 + F 2 * 2 ^ (16 - h 1)) * 128 + 0 * 65536 = (F 1 * 2 ^ h 1 + F 2) * 2 ^ (16 - (h 1 - 7))
    rw [Nat.zero_mul, Nat.add_zero, Nat.add_mul, Nat.add_mul, Nat.mul_assoc (F 1) (2 ^ h 1), ← Nat.pow_add, show h 1 + (16 - (h 1 - 7)) = 23 by omega, show 16 - (h 1 - 7) = (16 - h 1) + 7 by omega, Nat.pow_add, ← Nat.mul_assoc]
    have a1 : (2 : Nat) ^ 23 = 65536 * 128 := rfl
    have a2 : (2 : Nat) ^ 7 = 128 := rfl
    rw [a1, a2, ← Nat.mul_assoc]

/-- What was coded is decoded, and both tables are the same behind each decision. -/
theorem back_run {n : Nat} (h1 : 1 ≤ n) (h2 : n ≤ 131072) (K : Nat → Int) (D : Nat → Nat) (hD : ∀ k, D k < 2) {m : Nat} (hm : m ≤ 16777216) :
    ∀ k, k ≤ m → (∃ j, Sim (endF (runC n K D m).s) (endH (runC n K D m).s) (flushP (runC n K D m).s) (runC n K D k).s (decRun (flushP (runC n K D m).s) n K k).s j) ∧ (decRun (flushP (runC n K D m).s) n K k).x = (runC n K D k).x ∧ (k < m → getBit (decRun (flushP (runC n K D m).s) n K k) (K k) = D k) := by
  obtain ⟨okm, _, _⟩ := runC_ok h1 h2 K D m hm
  have R := reads_flush okm.ok (runC_wb h1 h2 K D m hm)
  have hg := runC_good h1 h2 K D (endH_in _) hm (flush_good okm.ok)
  have hgk : ∀ k, k ≤ m → Good (endF (runC n K D m).s) (endH (runC n K D m).s) (flush2 (runC n K D m).s).b.length (runC n K D k).s := by
    intro k hk
    have := hg (m - k) (by omega)
    rw [show m - (m - k) = k by omega] at this
    exact this
  have step : ∀ k, k < m → (∃ j, Sim (endF (runC n K D m).s) (endH (runC n K D m).s) (flushP (runC n K D m).s) (runC n K D k).s (decRun (flushP (runC n K D m).s) n K k).s j) → (decRun (flushP (runC n K D m).s) n K k).x = (runC n K D k).x →
      getBit (decRun (flushP (runC n K D m).s) n K k) (K k) = D k ∧ (∃ j, Sim (endF (runC n K D m).s) (endH (runC n K D m).s) (flushP (runC n K D m).s) (runC n K D (k + 1)).s (decRun (flushP (runC n K D m).s) n K (k + 1)).s j) ∧ (decRun (flushP (runC n K D m).s) n K (k + 1)).x = (runC n K D (k + 1)).x := by
    rintro k hk ⟨j, S⟩ hx
    obtain ⟨ok, _, _⟩ := runC_ok h1 h2 K D k (by omega)
    have g1 := hgk (k + 1) (by omega)
    obtain ⟨d1, d2, d3⟩ := S.decision R ok.ok (getD_lt ok.cells (placeOf (K k) (runC n K D k).x.length)) (hD k) g1
    refine ⟨?_, ?_, ?_⟩
    · unfold getBit; rw [hx]; exact d1
    · obtain ⟨j', S'⟩ := d3
      refine ⟨j', ?_⟩
      show Sim _ _ _ (codeP _ _ _) (decP _ _ _) j'
      rw [hx]; exact S'
    · show List.set _ _ _ = List.set _ _ _
      rw [hx, d2]
  have all : ∀ k, k ≤ m → (∃ j, Sim (endF (runC n K D m).s) (endH (runC n K D m).s) (flushP (runC n K D m).s) (runC n K D k).s (decRun (flushP (runC n K D m).s) n K k).s j) ∧ (decRun (flushP (runC n K D m).s) n K k).x = (runC n K D k).x := by
    intro k
    induction k with
    | zero =>
      intro _
      exact ⟨⟨2, Sim.first R n (by have := flush_two (runC n K D m).s; omega) (hgk 0 (Nat.zero_le _))⟩, rfl⟩
    | succ k ih =>
      intro hk
      obtain ⟨a, b⟩ := ih (by omega)
      exact (step k (by omega) a b).2
  intro k hk
  obtain ⟨a, b⟩ := all k hk
  exact ⟨a, b, fun hlt => (step k hlt a b).1⟩

/-- The bytes: none above 8f behind an ff, the last one no ff. -/
theorem back_bytes {n : Nat} (h1 : 1 ≤ n) (h2 : n ≤ 131072) (K : Nat → Int) (D : Nat → Nat) {m : Nat} (hm : m ≤ 16777216) (i : Nat) (hi : i < (flushP (runC n K D m).s).length) (h255 : (flushP (runC n K D m).s).getD i 0 = 255) :
    i + 1 < (flushP (runC n K D m).s).length ∧ (flushP (runC n K D m).s).getD (i + 1) 0 ≤ 143 := by
  obtain ⟨okm, _, _⟩ := runC_ok h1 h2 K D m hm
  have R := reads_flush okm.ok (runC_wb h1 h2 K D m hm)
  generalize flushP (runC n K D m).s = B at *
  have hlen := R.len
  have e : ∀ j, j < B.length → B.getD j 0 = endF (runC n K D m).s (j + 1) := by
    intro j hj
    rw [← R.bytes j]
    unfold byteD
    rw [List.getD_eq_getElem?_getD, List.getD_eq_getElem?_getD, List.getElem?_eq_getElem hj]; rfl
  rw [e i hi] at h255
  have hlt : i + 1 < (flush2 (runC n K D m).s).b.length := by
    by_cases h : (flush2 (runC n K D m).s).b.length = B.length
    · have := R.notfull h
      have : i + 1 ≠ (flush2 (runC n K D m).s).b.length := fun e => this (by rw [← e]; exact h255)
      omega
    · omega
  have hp := R.pairs (i + 1) hlt h255
  have hl : i + 1 < B.length := by
    by_cases h : i + 1 < B.length
    · exact h
    · have := R.past (i + 1 + 1) (by omega); omega
  exact ⟨hl, by rw [e _ hl]; exact hp⟩

end Go.Proofs.Ytkggdnkmaldmlaa

/- Decisions in a row, coded and read again. -/
namespace Go.Proofs.Ytkggdnkmaldmlaa

/-- A coder behind decisions. -/
def runL (o : Co) (L : List (Int × Nat)) : Co := L.foldl (fun o p => putP o p.1 p.2) o
theorem runL_cat (o : Co) (L M : List (Int × Nat)) : runL o (L ++ M) = runL (runL o L) M := by simp [runL]
theorem runL_snoc (o : Co) (L : List (Int × Nat)) (p : Int × Nat) : runL o (L ++ [p]) = putP (runL o L) p.1 p.2 := by simp [runL]
theorem runL_ok {o : Co} (h : Ook o) : ∀ (L : List (Int × Nat)), o.made + L.length ≤ 16777216 → Ook (runL o L) ∧ (runL o L).made = o.made + L.length ∧ (runL o L).x.length = o.x.length := by
  intro L
  induction L generalizing o with
  | nil => intro _; exact ⟨h, rfl, rfl⟩
  | cons p L ih =>
    intro hm
    simp only [List.length_cons] at hm
    have h1 : Ook (putP o p.1 p.2) := putP_ok h p.1 p.2 (by omega)
    have h2 : (putP o p.1 p.2).made = o.made + 1 := rfl
    obtain ⟨a, b, c⟩ := ih h1 (by rw [h2]; omega)
    refine ⟨a, ?_, ?_⟩
    · show (runL (putP o p.1 p.2) L).made = _
      rw [b, h2]; simp; omega
    · show (runL (putP o p.1 p.2) L).x.length = _
      rw [c, putP_xlen]

def kOf (L : List (Int × Nat)) (i : Nat) : Int := (L.getD i (0, 0)).1
def dOf (L : List (Int × Nat)) (i : Nat) : Nat := (L.getD i (0, 0)).2
theorem runC_take (n : Nat) (L : List (Int × Nat)) : ∀ k, k ≤ L.length → runC n (kOf L) (dOf L) k = runL (newP n) (L.take k)
  | 0, _ => by simp [runC, runL]
  | k + 1, h => by
    have e : L.take (k + 1) = L.take k ++ [L.getD k (0, 0)] := by
      rw [List.take_add_one, List.getD_eq_getElem?_getD, List.getElem?_eq_getElem (by omega)]; rfl
    rw [e, runL_snoc, ← runC_take n L k (by omega)]; rfl
theorem runC_all (n : Nat) (L : List (Int × Nat)) : runC n (kOf L) (dOf L) L.length = runL (newP n) L := by
  rw [runC_take n L _ (Nat.le_refl _), List.take_length]

/-- The decoder over a coder's bytes. -/
def codedB (n : Nat) (L : List (Int × Nat)) : List Nat := flushP (runL (newP n) L).s
def decL (n : Nat) (L : List (Int × Nat)) (k : Nat) : De := decRun (codedB n L) n (kOf L) k
theorem back_list {n : Nat} (h1 : 1 ≤ n) (h2 : n ≤ 131072) {L : List (Int × Nat)} (hL : ∀ p ∈ L, p.2 < 2) (hm : L.length ≤ 16777216) :
    ∀ k, k ≤ L.length → (decL n L k).x = (runL (newP n) (L.take k)).x ∧ (k < L.length → getBit (decL n L k) (kOf L k) = dOf L k) := by
  have hD : ∀ k, dOf L k < 2 := by
    intro k
    unfold dOf
    rw [List.getD_eq_getElem?_getD]
    by_cases h : k < L.length
    · rw [List.getElem?_eq_getElem h]; exact hL _ (List.getElem_mem h)
    · rw [List.getElem?_eq_none (by omega)]; decide
  intro k hk
  obtain ⟨_, b, c⟩ := back_run h1 h2 (kOf L) (dOf L) hD hm k hk
  rw [runC_all] at b c
  rw [runC_take n L k hk] at b
  exact ⟨b, c⟩

end Go.Proofs.Ytkggdnkmaldmlaa

/- A bitmap's decisions, whoever decides. -/
namespace Go.Proofs.Ytkggdnkmaldmlaa

abbrev Pxs := Nat → Nat → Bool
/-- The row above. -/
def upP (P : Pxs) (y x : Nat) : Bool := if y = 0 then false else P x (y - 1)
def sameR (W : Nat) (P : Pxs) (y : Nat) : Bool := decide (∀ x, x < W → P x y = upP P y x)
def copyR (W : Nat) (P : Pxs) (y : Nat) : Pxs := fun a e => if e = y ∧ a < W then upP P y a else P a e

/-- Pixels of a row, so many; a row; rows, so many: `ask` decides. -/
def pixW {A : Type} (ask : A → Int → Nat → Nat × A) (base t W y : Nat) : Nat → A × Pxs → A × Pxs
  | 0, s => s
  | n + 1, s => ((ask (pixW ask base t W y n s).1 ((base + cxJ W (pixW ask base t W y n s).2 t n y : Nat) : Int) ((pixW ask base t W y n s).2 n y).toNat).2,
      putPix (pixW ask base t W y n s).2 n y (decide ((ask (pixW ask base t W y n s).1 ((base + cxJ W (pixW ask base t W y n s).2 t n y : Nat) : Int) ((pixW ask base t W y n s).2 n y).toNat).1 = 1)))
def rowW {A : Type} (ask : A → Int → Nat → Nat × A) (base t W : Nat) (skip : Bool) (y : Nat) (s : A × Pxs) : A × Pxs :=
  if skip then
    if (ask s.1 ((base + sizeT t : Nat) : Int) (sameR W s.2 y).toNat).1 = 0 then pixW ask base t W y W ((ask s.1 ((base + sizeT t : Nat) : Int) (sameR W s.2 y).toNat).2, s.2)
    else ((ask s.1 ((base + sizeT t : Nat) : Int) (sameR W s.2 y).toNat).2, copyR W s.2 y)
  else pixW ask base t W y W s
def thrW {A : Type} (ask : A → Int → Nat → Nat × A) (base t W : Nat) (skip : Bool) : Nat → A × Pxs → A × Pxs
  | 0, s => s
  | n + 1, s => rowW ask base t W skip n (thrW ask base t W skip n s)

/-- Rows below are as they were. -/
theorem pixW_other {A : Type} (ask : A → Int → Nat → Nat × A) (base t W y : Nat) (s : A × Pxs) : ∀ n a e, ¬ (e = y ∧ a < n) → (pixW ask base t W y n s).2 a e = s.2 a e
  | 0, _, _, _ => rfl
  | n + 1, a, e, h => by
    show putPix _ n y _ a e = _
    unfold putPix
    rw [if_neg (by omega), pixW_other ask base t W y s n a e (by omega)]
theorem rowW_other {A : Type} (ask : A → Int → Nat → Nat × A) (base t W : Nat) (skip : Bool) (y : Nat) (s : A × Pxs) (a e : Nat) (h : e ≠ y ∨ W ≤ a) : (rowW ask base t W skip y s).2 a e = s.2 a e := by
  unfold rowW
  split
  · split
    · rw [pixW_other _ _ _ _ _ _ _ _ _ (by omega)]
    · show copyR W s.2 y a e = _
      unfold copyR; rw [if_neg (by omega)]
  · rw [pixW_other _ _ _ _ _ _ _ _ _ (by omega)]
theorem thrW_other {A : Type} (ask : A → Int → Nat → Nat × A) (base t W : Nat) (skip : Bool) (s : A × Pxs) : ∀ n a e, (n ≤ e ∨ W ≤ a) → (thrW ask base t W skip n s).2 a e = s.2 a e
  | 0, _, _, _ => rfl
  | n + 1, a, e, h => by
    show (rowW ask base t W skip n (thrW ask base t W skip n s)).2 a e = _
    rw [rowW_other _ _ _ _ _ _ _ _ _ (by omega), thrW_other ask base t W skip s n a e (by omega)]

/-- A bitmap's decisions. -/
def pixD (base t W : Nat) (P : Pxs) (y : Nat) : Nat → List (Int × Nat)
  | 0 => []
  | n + 1 => pixD base t W P y n ++ [(((base + cxJ W P t n y : Nat) : Int), (P n y).toNat)]
def rowD (base t W : Nat) (skip : Bool) (P : Pxs) (y : Nat) : List (Int × Nat) :=
  if skip then (((base + sizeT t : Nat) : Int), (sameR W P y).toNat) :: (if sameR W P y then [] else pixD base t W P y W) else pixD base t W P y W
def rowsD (base t W : Nat) (skip : Bool) (P : Pxs) : Nat → List (Int × Nat)
  | 0 => []
  | n + 1 => rowsD base t W skip P n ++ rowD base t W skip P n
theorem pixD_bits (base t W : Nat) (P : Pxs) (y : Nat) : ∀ n, ∀ p ∈ pixD base t W P y n, p.2 < 2
  | 0, p, h => by simp [pixD] at h
  | n + 1, p, h => by
    simp only [pixD, List.mem_append, List.mem_singleton] at h
    rcases h with h | rfl
    · exact pixD_bits base t W P y n p h
    · have := Bool.toNat_le (P n y); show (P n y).toNat < 2; omega
theorem rowD_bits (base t W : Nat) (skip : Bool) (P : Pxs) (y : Nat) : ∀ p ∈ rowD base t W skip P y, p.2 < 2 := by
  intro p h
  unfold rowD at h
  split at h
  · simp only [List.mem_cons] at h
    rcases h with rfl | h
    · have := Bool.toNat_le (sameR W P y); show (sameR W P y).toNat < 2; omega
    · split at h
      · simp at h
      · exact pixD_bits _ _ _ _ _ _ p h
  · exact pixD_bits _ _ _ _ _ _ p h
theorem rowsD_bits (base t W : Nat) (skip : Bool) (P : Pxs) : ∀ n, ∀ p ∈ rowsD base t W skip P n, p.2 < 2
  | 0, p, h => by simp [rowsD] at h
  | n + 1, p, h => by
    simp only [rowsD, List.mem_append] at h
    rcases h with h | h
    · exact rowsD_bits base t W skip P n p h
    · exact rowD_bits base t W skip P n p h
theorem pixD_length (base t W : Nat) (P : Pxs) (y : Nat) : ∀ n, (pixD base t W P y n).length = n
  | 0 => rfl
  | n + 1 => by rw [pixD, List.length_append, pixD_length base t W P y n]; rfl
theorem rowD_length (base t W : Nat) (skip : Bool) (P : Pxs) (y : Nat) : (rowD base t W skip P y).length ≤ W + 1 := by
  unfold rowD
  split
  · split
    · simp
    · simp [pixD_length]
  · simp [pixD_length]
theorem rowsD_length (base t W : Nat) (skip : Bool) (P : Pxs) : ∀ n, (rowsD base t W skip P n).length ≤ n * (W + 1)
  | 0 => by simp [rowsD]
  | n + 1 => by
    have h1 := rowsD_length base t W skip P n
    have h2 := rowD_length base t W skip P n
    rw [rowsD, List.length_append, Nat.add_mul, Nat.one_mul]; omega

/-- The coder lets each bit be what it is. -/
def askC (o : Co) (i : Int) (b : Nat) : Nat × Co := (b, putP o i b)
theorem putPix_same (P : Pxs) (x y : Nat) : putPix P x y (decide ((P x y).toNat = 1)) = P := by
  funext a e
  unfold putPix
  split
  · rename_i h
    obtain ⟨rfl, rfl⟩ := h
    cases P a e <;> rfl
  · rfl
theorem pixW_coder (base t W y : Nat) (o : Co) (P : Pxs) : ∀ n, pixW askC base t W y n (o, P) = (runL o (pixD base t W P y n), P)
  | 0 => rfl
  | n + 1 => by
    rw [pixW, pixW_coder base t W y o P n, pixD, runL_snoc]
    show (putP _ _ _, putPix P n y _) = _
    rw [show (askC (runL o (pixD base t W P y n)) ((base + cxJ W P t n y : Nat) : Int) (P n y).toNat).1 = (P n y).toNat from rfl, putPix_same]
theorem copyR_same (W : Nat) (P : Pxs) (y : Nat) (h : sameR W P y = true) : copyR W P y = P := by
  funext a e
  unfold copyR
  split
  · rename_i hh
    obtain ⟨rfl, hw⟩ := hh
    exact (of_decide_eq_true h a hw).symm
  · rfl
theorem rowW_coder (base t W : Nat) (skip : Bool) (y : Nat) (o : Co) (P : Pxs) : rowW askC base t W skip y (o, P) = (runL o (rowD base t W skip P y), P) := by
  unfold rowW rowD
  cases skip
  · simp only [Bool.false_eq_true, if_false]; exact pixW_coder base t W y o P W
  · simp only [if_true]
    show (if (sameR W P y).toNat = 0 then _ else _) = _
    cases hs : sameR W P y
    · simp only [Bool.toNat_false, if_true, Bool.false_eq_true, if_false]
      rw [show (askC o ((base + sizeT t : Nat) : Int) 0).2 = putP o ((base + sizeT t : Nat) : Int) 0 from rfl, pixW_coder]
      rfl
    · simp only [Bool.toNat_true, if_true]
      rw [if_neg (by decide), copyR_same W P y hs]
      rfl
theorem thrW_coder (base t W : Nat) (skip : Bool) (o : Co) (P : Pxs) : ∀ n, thrW askC base t W skip n (o, P) = (runL o (rowsD base t W skip P n), P)
  | 0 => rfl
  | n + 1 => by
    rw [thrW, thrW_coder base t W skip o P n, rowW_coder, rowsD, runL_cat]

/-- The decoder tells them. -/
def askD (B : List Nat) (d : De) (i : Int) (_b : Nat) : Nat × De := (getBit d i, getP B d i)
/-- What has come of a bitmap: the rows above y, and x pixels of row y. -/
def cur (W : Nat) (P : Pxs) (y x : Nat) : Pxs := fun a e => if a < W ∧ (e < y ∨ (e = y ∧ a < x)) then P a e else false
theorem cur_cx (W : Nat) (P : Pxs) (t x y : Nat) (ht : t < 4) : cxJ W (cur W P y x) t x y = cxJ W P t x y := by
  refine cxJ_congr W _ _ t x y ht fun a b ha hb => ?_
  unfold cur; rw [if_pos ⟨ha, hb⟩]
theorem cur_put (W : Nat) (P : Pxs) (x y : Nat) (hx : x < W) : putPix (cur W P y x) x y (P x y) = cur W P y (x + 1) := by
  funext a e
  unfold putPix cur
  by_cases h : a = x ∧ e = y
  · obtain ⟨rfl, rfl⟩ := h
    rw [if_pos ⟨rfl, rfl⟩, if_pos ⟨hx, by omega⟩]
  · rw [if_neg h]
    by_cases h2 : a < W ∧ (e < y ∨ (e = y ∧ a < x))
    · rw [if_pos h2, if_pos ⟨h2.1, by omega⟩]
    · rw [if_neg h2, if_neg (by omega)]
theorem cur_row (W : Nat) (P : Pxs) (y : Nat) : cur W P y W = cur W P (y + 1) 0 := by
  funext a e
  unfold cur
  by_cases h2 : a < W ∧ (e < y ∨ (e = y ∧ a < W))
  · rw [if_pos h2, if_pos ⟨h2.1, by omega⟩]
  · rw [if_neg h2, if_neg (by omega)]
theorem cur_copy (W : Nat) (P : Pxs) (y : Nat) (h : sameR W P y = true) : copyR W (cur W P y 0) y = cur W P (y + 1) 0 := by
  funext a e
  unfold copyR
  by_cases h1 : e = y ∧ a < W
  · obtain ⟨rfl, hw⟩ := h1
    rw [if_pos ⟨rfl, hw⟩]
    have := of_decide_eq_true h a hw
    unfold cur
    rw [if_pos ⟨hw, by omega⟩, this]
    unfold upP
    by_cases h0 : e = 0
    · rw [if_pos h0, if_pos h0]
    · rw [if_neg h0, if_neg h0]
      show (if a < W ∧ (e - 1 < e ∨ (e - 1 = e ∧ a < 0)) then P a (e - 1) else false) = P a (e - 1)
      rw [if_pos ⟨hw, by omega⟩]
  · rw [if_neg h1]
    unfold cur
    by_cases h2 : a < W ∧ (e < y ∨ (e = y ∧ a < 0))
    · rw [if_pos h2, if_pos ⟨h2.1, by omega⟩]
    · rw [if_neg h2, if_neg (by omega)]
theorem dec_step {n : Nat} (h1 : 1 ≤ n) (h2 : n ≤ 131072) {L : List (Int × Nat)} (hL : ∀ p ∈ L, p.2 < 2) (hm : L.length ≤ 16777216) {pre post : List (Int × Nat)} {i : Int} {b : Nat} (e : L = pre ++ (i, b) :: post) (k : Nat) :
    askD (codedB n L) (decL n L pre.length) i k = (b, decL n L (pre.length + 1)) := by
  have hk : pre.length < L.length := by rw [e]; simp
  have eg : L.getD pre.length (0, 0) = (i, b) := by
    rw [e, List.getD_eq_getElem?_getD, List.getElem?_append_right (Nat.le_refl _), Nat.sub_self]; rfl
  have ek : kOf L pre.length = i := by unfold kOf; rw [eg]
  have ed : dOf L pre.length = b := by unfold dOf; rw [eg]
  have hb := (back_list h1 h2 hL hm pre.length (by omega)).2 hk
  rw [ek, ed] at hb
  show (getBit _ i, getP _ _ i) = _
  rw [hb]
  refine Prod.ext rfl ?_
  show getP _ _ i = _
  rw [← ek]; rfl
theorem pixW_back {n : Nat} (h1 : 1 ≤ n) (h2 : n ≤ 131072) {L : List (Int × Nat)} (hL : ∀ p ∈ L, p.2 < 2) (hm : L.length ≤ 16777216) (base t W y : Nat) (ht : t < 4) (P : Pxs) (pre : List (Int × Nat)) :
    ∀ k, k ≤ W → (∃ post, L = pre ++ pixD base t W P y k ++ post) → pixW (askD (codedB n L)) base t W y k (decL n L pre.length, cur W P y 0) = (decL n L (pre.length + k), cur W P y k)
  | 0, _, _ => rfl
  | k + 1, hk, ⟨post, e⟩ => by
    have e' : L = pre ++ pixD base t W P y k ++ ((((base + cxJ W P t k y : Nat) : Int), (P k y).toNat) :: post) := by rw [e, pixD]; simp
    have ih := pixW_back h1 h2 hL hm base t W y ht P pre k (by omega) ⟨_, e'⟩
    rw [pixW, ih]
    show ((askD _ _ _ _).2, putPix _ k y (decide ((askD _ _ _ _).1 = 1))) = _
    simp only []
    rw [cur_cx W P t k y ht]
    have hs := dec_step h1 h2 hL hm e' (cur W P y k k y).toNat
    rw [List.length_append, pixD_length] at hs
    rw [hs]
    simp only []
    rw [show decide ((P k y).toNat = 1) = P k y by cases P k y <;> rfl, cur_put W P k y (by omega)]
    rfl
theorem rowW_back {n : Nat} (h1 : 1 ≤ n) (h2 : n ≤ 131072) {L : List (Int × Nat)} (hL : ∀ p ∈ L, p.2 < 2) (hm : L.length ≤ 16777216) (base t W : Nat) (skip : Bool) (y : Nat) (ht : t < 4) (P : Pxs) (pre post : List (Int × Nat)) (e : L = pre ++ rowD base t W skip P y ++ post) :
    rowW (askD (codedB n L)) base t W skip y (decL n L pre.length, cur W P y 0) = (decL n L (pre.length + (rowD base t W skip P y).length), cur W P (y + 1) 0) := by
  unfold rowW
  unfold rowD at e ⊢
  cases skip
  · simp only [Bool.false_eq_true, if_false] at e ⊢
    rw [pixW_back h1 h2 hL hm base t W y ht P pre W (Nat.le_refl _) ⟨_, e⟩, cur_row, pixD_length]
  · simp only [if_true] at e ⊢
    have e' : L = pre ++ ((((base + sizeT t : Nat) : Int), (sameR W P y).toNat) :: ((if sameR W P y then [] else pixD base t W P y W) ++ post)) := by rw [e]; simp
    rw [dec_step h1 h2 hL hm e']
    simp only []
    cases hs : sameR W P y
    · rw [hs] at e
      simp only [Bool.toNat_false, if_true, Bool.false_eq_true, if_false] at e ⊢
      have e2 : L = (pre ++ [(((base + sizeT t : Nat) : Int), 0)]) ++ pixD base t W P y W ++ post := by rw [e]; simp
      have := pixW_back h1 h2 hL hm base t W y ht P _ W (Nat.le_refl _) ⟨_, e2⟩
      rw [List.length_append] at this
      rw [show pre.length + 1 = pre.length + [(((base + sizeT t : Nat) : Int), 0)].length from rfl, this, cur_row]
      refine Prod.ext ?_ rfl
      show decL n L _ = decL n L _
      congr 1
      simp [pixD_length]; omega
    · rw [hs] at e
      simp only [Bool.toNat_true, if_true] at e ⊢
      rw [if_neg (by decide), cur_copy W P y hs]
      rfl
theorem cur_first (W : Nat) (P : Pxs) : cur W P 0 0 = fun _ _ => false := by
  funext a e; unfold cur; rw [if_neg (by omega)]
/-- What was coded is read again, row by row. -/
theorem thrW_back {n : Nat} (h1 : 1 ≤ n) (h2 : n ≤ 131072) {L : List (Int × Nat)} (hL : ∀ p ∈ L, p.2 < 2) (hm : L.length ≤ 16777216) (base t W : Nat) (skip : Bool) (ht : t < 4) (P : Pxs) (pre : List (Int × Nat)) :
    ∀ k, (∃ post, L = pre ++ rowsD base t W skip P k ++ post) → thrW (askD (codedB n L)) base t W skip k (decL n L pre.length, fun _ _ => false) = (decL n L (pre.length + (rowsD base t W skip P k).length), cur W P k 0)
  | 0, _ => by rw [cur_first]; rfl
  | k + 1, ⟨post, e⟩ => by
    have e' : L = (pre ++ rowsD base t W skip P k) ++ rowD base t W skip P k ++ post := by rw [e, rowsD]; simp
    have ih := thrW_back h1 h2 hL hm base t W skip ht P pre k ⟨rowD base t W skip P k ++ post, by rw [e']; simp⟩
    have hr := rowW_back h1 h2 hL hm base t W skip k ht P _ _ e'
    rw [List.length_append] at hr
    rw [thrW, ih, hr, rowsD, List.length_append, Nat.add_assoc]

end Go.Proofs.Ytkggdnkmaldmlaa
