/- What was coded is decoded. -/
import Derived.Test.YtkggdnkmaldmlabK4
import Derived.Test.YtkggdnkmaldmlabK5
namespace Go.Proofs.Ytkggdnkmaldmlab

def decRun (B : List Nat) (n : Nat) (K : Nat → Int) : Nat → De
  | 0 => newD B n
  | k + 1 => getP B (decRun B n K k) (K k)

theorem decRun_ok {n : Nat} (h1 : 1 ≤ n) (h2 : n ≤ 131072) {B : List Nat} (hB : ∀ y ∈ B, y < 256) (K : Nat → Int) : ∀ k, k ≤ 16777216 → Eok B (decRun B n K k) ∧ (decRun B n K k).made = k
  | 0, _ => ⟨newD_ok h1 h2 hB, rfl⟩
  | k + 1, h => by
    obtain ⟨a, b⟩ := decRun_ok h1 h2 hB K k (by omega)
    exact ⟨getP_ok a _ (by omega), by show (decRun B n K k).made + 1 = _; omega⟩

theorem flush_cw {s : Cs} (hw : Cw s) : Cw (flush1 s) ∧ Cw (flush2 s) := by
  have h1 : Cw (flush1 s) := outP_cw (s := { s with c := flushC s.c s.a * 2 ^ s.t }) hw.apos hw.alt hw.llt hw.blt
  exact ⟨h1, outP_cw (s := { flush1 s with c := (flush1 s).c * 2 ^ (flush1 s).t }) h1.apos h1.alt h1.llt h1.blt⟩

theorem flush_two (s : Cs) : (flush2 s).b.length = s.b.length + 2 := by simp [flush2, flush1, outP]

theorem endF_lt {s : Cs} (hw : Cw s) (i : Nat) : endF s i < 256 := by
  have h2 := (flush_cw hw).2
  unfold endF
  split
  · rw [getD_snoc]
    split
    · exact h2.llt
    · rw [List.getD_eq_getElem?_getD]
      by_cases h : i < (flush2 s).b.length
      · rw [List.getElem?_eq_getElem h]; exact h2.blt _ (List.getElem_mem h)
      · rw [List.getElem?_eq_none (by omega)]; decide
  · decide

theorem reads_flush {s : Cs} (hok : Cok s) (hb : Wb s) : Reads (endF s) (endH s) (flush2 s).b.length (flushP s) := by
  have hl2 := flush_two s
  have hlen : ((flush2 s).l = 255 → (flushP s).length = (flush2 s).b.length - 1) ∧ ((flush2 s).l ≠ 255 → (flushP s).length = (flush2 s).b.length) := by
    unfold flushP
    constructor
    · intro h; rw [if_pos h]; simp
    · intro h; rw [if_neg h]; simp
  have hpast : ∀ i, (flushP s).length < i → endF s i = 255 := by
    intro i hi
    by_cases h : (flush2 s).l = 255
    · have := hlen.1 h
      by_cases h2 : i = (flush2 s).b.length
      · rw [h2, endF_l, h]
      · exact endF_past s i (by omega)
    · have := hlen.2 h
      exact endF_past s i (by omega)
  refine ⟨fun i => ?_, endF_lt hok.cw, hpast, ?_, ?_, ?_, flush_pairs hok hb, endH_in s, fun i hi => by unfold endH; rw [if_neg (by omega)]⟩
  · by_cases hi : i < (flushP s).length
    · unfold byteD
      rw [List.getD_eq_getElem?_getD, List.getElem?_eq_getElem hi]
      show (flushP s)[i] = _
      have e : (flushP s)[i]? = ((flush2 s).b ++ [(flush2 s).l])[i + 1]? := by
        unfold flushP
        split
        · rename_i h
          have := hlen.1 h
          rw [List.getElem?_drop, List.getElem?_append_left (by omega), Nat.add_comm]
        · rw [List.getElem?_drop, Nat.add_comm]
      have hle : i + 1 ≤ (flush2 s).b.length := by
        by_cases h : (flush2 s).l = 255
        · have := hlen.1 h; omega
        · have := hlen.2 h; omega
      rw [List.getElem?_eq_getElem hi] at e
      unfold endF
      rw [if_pos hle, List.getD_eq_getElem?_getD, ← e]; rfl
    · rw [byteD_past (by omega), hpast (i + 1) (by omega)]
  · by_cases h : (flush2 s).l = 255
    · have := hlen.1 h; omega
    · have := hlen.2 h; omega
  · intro h
    by_cases h2 : (flush2 s).l = 255
    · rw [endF_l, h2]
    · have := hlen.2 h2; omega
  · intro h
    rw [endF_l]
    intro h2
    have := hlen.1 h2; omega

theorem newP_wb (n : Nat) : Wb (newP n).s := ⟨by show (0 + 32768) * 2 ^ 12 < 150994944; decide, by intro i hi; simp [newP] at hi, by intro i hi; simp [newP] at hi⟩
theorem runC_wb {n : Nat} (h1 : 1 ≤ n) (h2 : n ≤ 131072) (K : Nat → Int) (D : Nat → Nat) : ∀ k, k ≤ 16777216 → Wb (runC n K D k).s
  | 0, _ => newP_wb n
  | k + 1, h => by
    obtain ⟨ok, _, _⟩ := runC_ok h1 h2 K D k (by omega)
    exact (runC_wb h1 h2 K D k (by omega)).code ok.ok (getD_lt ok.cells _) _

theorem runC_good {n : Nat} (h1 : 1 ≤ n) (h2 : n ≤ 131072) (K : Nat → Int) (D : Nat → Nat) {F h : Nat → Nat} {M : Nat} (hh : ∀ i, i < M → h i = outT (F i)) {m : Nat} (hm : m ≤ 16777216) (g : Good F h M (runC n K D m).s) : ∀ i, i ≤ m → Good F h M (runC n K D (m - i)).s
  | 0, _ => g
  | i + 1, hi => by
    have gi := runC_good h1 h2 K D hh hm g i (by omega)
    obtain ⟨ok, _, _⟩ := runC_ok h1 h2 K D (m - (i + 1)) (by omega)
    rw [show m - i = (m - (i + 1)) + 1 by omega] at gi
    exact Good.code hh ok.ok (getD_lt ok.cells _) _ gi

/-- At first. -/
theorem Sim.first {F h : Nat → Nat} {M : Nat} {B : List Nat} (R : Reads F h M B) (n : Nat) (hM : 2 ≤ M) (g : Good F h M (newP n).s) : Sim F h B (newP n).s (newDs B) 2 := by
  have hs : (newP n).s = { a := 32768, c := 0, t := 12, b := [], l := 0 } := rfl
  have hb0 : baseV F h (newP n).s = 0 := by simp [baseV, Yv, newP]
  obtain ⟨k7, k8⟩ := R.h_bd 0
  obtain ⟨j7, j8⟩ := R.h_bd 1
  have hu := g.up 1 (Nat.le_refl _)
  rw [hb0] at hu
  have hS1 : Sv h 0 1 = h 0 := by simp [Sv]
  have hu2 : Zv F h 1 * 2 ^ 27 < (0 + 32768) * 2 ^ (12 + h 0) := by
    have : Zv F h (0 + 1) * 2 ^ 27 < (0 + 32768) * 2 ^ (12 + Sv h 0 1) := hu
    rw [hS1] at this; exact this
  have hz1 : Zv F h 1 = F 0 * 2 ^ h 0 + F 1 := rfl
  have hF0 : F 0 = 0 ∧ h 0 = 8 := by
    have hh := R.sh 0 (by omega)
    by_cases h255 : F 0 = 255
    · rw [h255] at hh
      have e7 : h 0 = 7 := hh
      rw [hz1, e7, h255] at hu2
      exfalso
      have a1 : (2 : Nat) ^ 27 = 134217728 := rfl
      have a2 : (2 : Nat) ^ (12 + 7) = 524288 := rfl
      have a3 : (2 : Nat) ^ 7 = 128 := rfl
      rw [a1, a2, a3] at hu2
      omega
    · have e8 : h 0 = 8 := by rw [hh]; unfold outT; rw [if_neg h255]
      rw [hz1, e8] at hu2
      have a1 : (2 : Nat) ^ 27 = 134217728 := rfl
      have a2 : (2 : Nat) ^ (12 + 8) = 1048576 := rfl
      have a3 : (2 : Nat) ^ 8 = 256 := rfl
      rw [a1, a2, a3] at hu2
      exact ⟨by omega, e8⟩
  have hb1 : byteD B 0 = F 1 := R.bytes 0
  have hf1 := R.lt 1
  have hf2 := R.lt 2
  have hin := R.inD { a := 32768, c := byteD B 0 * 65536, t := 0, p := 0 } 1 (Nat.le_refl _) (by show 0 = min (1 - 1) B.length; simp)
  have hz2 : Zv F h 2 = F 1 * 2 ^ h 1 + F 2 := by
    show Zv F h 1 * 2 ^ h 1 + F 2 = _
    rw [hz1, hF0.1, Nat.zero_mul, Nat.zero_add]
  have hn : newDs B = { a := 32768, c := (F 1 * 65536 + F 2 * 2 ^ (16 - h 1)) % 4294967296 * 128 % 4294967296, t := h 1 - 7, p := min 1 B.length } := by
    unfold newDs
    rw [hin, hb1]
  have hle : F 2 * 2 ^ (16 - h 1) ≤ 255 * 512 := by
    have : 2 ^ (16 - h 1) ≤ 2 ^ 9 := Nat.pow_le_pow_right (by decide) (by omega)
    have e9 : (2 : Nat) ^ 9 = 512 := rfl
    rw [e9] at this
    exact Nat.mul_le_mul (by omega) this
  have hc : (F 1 * 65536 + F 2 * 2 ^ (16 - h 1)) % 4294967296 * 128 % 4294967296 = (F 1 * 65536 + F 2 * 2 ^ (16 - h 1)) * 128 := by
    generalize F 2 * 2 ^ (16 - h 1) = y at hle ⊢
    omega
  rw [hn, hc]
  refine ⟨rfl, by simp [newP], ?_, ?_, by show min 1 B.length = min (2 - 1) B.length; rfl, by show h 1 - 7 ≤ 8; omega⟩
  · rw [hs]
    show 12 + Sv h 0 2 = 27 + (h 1 - 7)
    have : Sv h 0 2 = h 0 + h 1 := by simp [Sv]
    rw [this, hF0.2]; omega
  · rw [hb0, hz2]
    show (F 1 * 65536 + F 2 * 2 ^ (16 - h 1)) * 128 + 0 * 65536 = (F 1 * 2 ^ h 1 + F 2) * 2 ^ (16 - (h 1 - 7))
    rw [Nat.zero_mul, Nat.add_zero, Nat.add_mul, Nat.add_mul, Nat.mul_assoc (F 1) (2 ^ h 1), ← Nat.pow_add, show h 1 + (16 - (h 1 - 7)) = 23 by omega, show 16 - (h 1 - 7) = (16 - h 1) + 7 by omega, Nat.pow_add, ← Nat.mul_assoc]
    have a1 : (2 : Nat) ^ 23 = 65536 * 128 := rfl
    have a2 : (2 : Nat) ^ 7 = 128 := rfl
    rw [a1, a2, ← Nat.mul_assoc]

/-- What was coded is decoded, and both tables are the same behind each decision. -/
theorem back_run {n : Nat} (h1 : 1 ≤ n) (h2 : n ≤ 131072) (K : Nat → Int) (D : Nat → Nat) (hD : ∀ k, D k < 2) {m : Nat} (hm : m ≤ 16777216) :
    ∀ k, k ≤ m → (∃ j, Sim (endF (runC n K D m).s) (endH (runC n K D m).s) (flushP (runC n K D m).s) (runC n K D k).s (decRun (flushP (runC n K D m).s) n K k).s j) ∧ (decRun (flushP (runC n K D m).s) n K k).x = (runC n K D k).x ∧ (k < m → getBit (decRun (flushP (runC n K D m).s) n K k) (K k) = D k) := by
  obtain ⟨okm, _, _⟩ := runC_ok h1 h2 K D m hm
  have R := reads_flush okm.ok (runC_wb h1 h2 K D m hm)
  have hg := runC_good h1 h2 K D (endH_in _) hm (flush_good okm.ok)
  have hgk : ∀ k, k ≤ m → Good (endF (runC n K D m).s) (endH (runC n K D m).s) (flush2 (runC n K D m).s).b.length (runC n K D k).s := by
    intro k hk
    have := hg (m - k) (by omega)
    rw [show m - (m - k) = k by omega] at this
    exact this
  have step : ∀ k, k < m → (∃ j, Sim (endF (runC n K D m).s) (endH (runC n K D m).s) (flushP (runC n K D m).s) (runC n K D k).s (decRun (flushP (runC n K D m).s) n K k).s j) → (decRun (flushP (runC n K D m).s) n K k).x = (runC n K D k).x →
      getBit (decRun (flushP (runC n K D m).s) n K k) (K k) = D k ∧ (∃ j, Sim (endF (runC n K D m).s) (endH (runC n K D m).s) (flushP (runC n K D m).s) (runC n K D (k + 1)).s (decRun (flushP (runC n K D m).s) n K (k + 1)).s j) ∧ (decRun (flushP (runC n K D m).s) n K (k + 1)).x = (runC n K D (k + 1)).x := by
    rintro k hk ⟨j, S⟩ hx
    obtain ⟨ok, _, _⟩ := runC_ok h1 h2 K D k (by omega)
    have g1 := hgk (k + 1) (by omega)
    obtain ⟨d1, d2, d3⟩ := S.decision R ok.ok (getD_lt ok.cells (placeOf (K k) (runC n K D k).x.length)) (hD k) g1
    refine ⟨?_, ?_, ?_⟩
    · unfold getBit; rw [hx]; exact d1
    · obtain ⟨j', S'⟩ := d3
      refine ⟨j', ?_⟩
      show Sim _ _ _ (codeP _ _ _) (decP _ _ _) j'
      rw [hx]; exact S'
    · show List.set _ _ _ = List.set _ _ _
      rw [hx, d2]
  have all : ∀ k, k ≤ m → (∃ j, Sim (endF (runC n K D m).s) (endH (runC n K D m).s) (flushP (runC n K D m).s) (runC n K D k).s (decRun (flushP (runC n K D m).s) n K k).s j) ∧ (decRun (flushP (runC n K D m).s) n K k).x = (runC n K D k).x := by
    intro k
    induction k with
    | zero =>
      intro _
      exact ⟨⟨2, Sim.first R n (by have := flush_two (runC n K D m).s; omega) (hgk 0 (Nat.zero_le _))⟩, rfl⟩
    | succ k ih =>
      intro hk
      obtain ⟨a, b⟩ := ih (by omega)
      exact (step k (by omega) a b).2
  intro k hk
  obtain ⟨a, b⟩ := all k hk
  exact ⟨a, b, fun hlt => (step k hlt a b).1⟩

/-- The bytes: none above 8f behind an ff, the last one no ff. -/
theorem back_bytes {n : Nat} (h1 : 1 ≤ n) (h2 : n ≤ 131072) (K : Nat → Int) (D : Nat → Nat) {m : Nat} (hm : m ≤ 16777216) (i : Nat) (hi : i < (flushP (runC n K D m).s).length) (h255 : (flushP (runC n K D m).s).getD i 0 = 255) :
    i + 1 < (flushP (runC n K D m).s).length ∧ (flushP (runC n K D m).s).getD (i + 1) 0 ≤ 143 := by
  obtain ⟨okm, _, _⟩ := runC_ok h1 h2 K D m hm
  have R := reads_flush okm.ok (runC_wb h1 h2 K D m hm)
  generalize flushP (runC n K D m).s = B at *
  have hlen := R.len
  have e : ∀ j, j < B.length → B.getD j 0 = endF (runC n K D m).s (j + 1) := by
    intro j hj
    rw [← R.bytes j]
    unfold byteD
    rw [List.getD_eq_getElem?_getD, List.getD_eq_getElem?_getD, List.getElem?_eq_getElem hj]; rfl
  rw [e i hi] at h255
  have hlt : i + 1 < (flush2 (runC n K D m).s).b.length := by
    by_cases h : (flush2 (runC n K D m).s).b.length = B.length
    · have := R.notfull h
      have : i + 1 ≠ (flush2 (runC n K D m).s).b.length := fun e => this (by rw [← e]; exact h255)
      omega
    · omega
  have hp := R.pairs (i + 1) hlt h255
  have hl : i + 1 < B.length := by
    by_cases h : i + 1 < B.length
    · exact h
    · have := R.past (i + 1 + 1) (by omega); omega
  exact ⟨hl, by rw [e _ hl]; exact hp⟩

end Go.Proofs.Ytkggdnkmaldmlab
