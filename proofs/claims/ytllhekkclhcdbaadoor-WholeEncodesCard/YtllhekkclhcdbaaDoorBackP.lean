/- The decoder goes where the coder went. -/
import Derived.Test.YtllhekkclhcdbaaDoorBackO
namespace Go.Proofs.YtllhekkclhcdbaaDoor

/-- Bytes as a decoder reads them: F from byte 1 on, M the last one's number. -/
structure Reads (F h : Nat → Nat) (M : Nat) (B : List Nat) : Prop where
  bytes : ∀ i, byteD B i = F (i + 1)
  lt : ∀ i, F i < 256
  past : ∀ i, B.length < i → F i = 255
  len : B.length ≤ M ∧ M ≤ B.length + 1
  full : M = B.length + 1 → F M = 255
  notfull : M = B.length → F M ≠ 255
  pairs : ∀ i, i < M → F i = 255 → F (i + 1) ≤ 143
  sh : ∀ i, i < M → h i = outT (F i)
  sh8 : ∀ i, M ≤ i → h i = 8

theorem Reads.inD {F h : Nat → Nat} {M : Nat} {B : List Nat} (R : Reads F h M B) (d : Ds) (j : Nat) (hj : 1 ≤ j) (hp : d.p = min (j - 1) B.length) :
    inD B d = { a := d.a, c := (d.c + F (j + 1) * 2 ^ (16 - h j)) % 4294967296, t := h j, p := min j B.length } := by
  have hcur : byteD B d.p = F j := by
    rw [R.bytes, hp]
    by_cases h1 : j - 1 ≤ B.length
    · rw [Nat.min_eq_left h1, show j - 1 + 1 = j by omega]
    · rw [Nat.min_eq_right (by omega), R.past _ (by omega), R.past j (by omega)]
  have hl := R.len
  unfold Go.Proofs.YtllhekkclhcdbaaDoor.inD
  rw [hcur, R.bytes]
  by_cases h1 : F j = 255
  · rw [if_neg (by simpa using h1)]
    by_cases h2 : j < M
    · have hpr := R.pairs j h2 h1
      have hjl : j ≤ B.length := by
        by_cases h3 : j ≤ B.length
        · exact h3
        · have := R.past (j + 1) (by omega); omega
      have hpe : d.p = j - 1 := by rw [hp]; exact Nat.min_eq_left (by omega)
      rw [hpe, show j - 1 + 1 + 1 = j + 1 by omega, show j - 1 + 1 = j by omega, if_neg (by omega), R.sh j h2, h1]
      have e : outT 255 = 7 := rfl
      rw [e, Nat.min_eq_left hjl]
    · have hjp : B.length ≤ j - 1 := by
        by_cases h3 : M = B.length + 1
        · omega
        · have h4 : M = B.length := by omega
          have h5 := R.notfull h4
          have : j ≠ M := fun e => h5 (by rw [← e]; exact h1)
          omega
      have hpe : d.p = B.length := by rw [hp]; exact Nat.min_eq_right hjp
      rw [hpe, R.past (B.length + 1 + 1) (by omega), if_pos (by decide), R.sh8 j (by omega), R.past (j + 1) (by omega), Nat.min_eq_right (by omega)]
  · rw [if_pos (by simpa using h1)]
    have hjl : j ≤ B.length := by
      by_cases h3 : j ≤ B.length
      · exact h3
      · exact absurd (R.past j (by omega)) h1
    have hpe : d.p = j - 1 := by rw [hp]; exact Nat.min_eq_left (by omega)
    have hh : h j = 8 := by
      by_cases h2 : j < M
      · rw [R.sh j h2]; unfold outT; rw [if_neg h1]
      · exact R.sh8 j (by omega)
    rw [hpe, show j - 1 + 1 + 1 = j + 1 by omega, show j - 1 + 1 = j by omega, hh, Nat.min_eq_left hjl]

theorem Reads.h_bd {F h : Nat → Nat} {M : Nat} {B : List Nat} (R : Reads F h M B) (i : Nat) : 7 ≤ h i ∧ h i ≤ 8 := by
  by_cases h1 : i < M
  · rw [R.sh i h1]; exact outT_bd _
  · rw [R.sh8 i (by omega)]; omega
theorem Sv_le {F h : Nat → Nat} {M : Nat} {B : List Nat} (R : Reads F h M B) (n : Nat) : ∀ r, Sv h n r ≤ 8 * r
  | 0 => by simp [Sv]
  | r + 1 => by
    have := Sv_le R n r
    have := (R.h_bd (n + r)).2
    show Sv h n r + h (n + r) ≤ _
    omega

/-- Coder and decoder behind the same decisions. -/
structure Sim (F h : Nat → Nat) (B : List Nat) (s : Cs) (d : Ds) (j : Nat) : Prop where
  a : d.a = s.a
  jle : s.b.length + 1 ≤ j
  t : s.t + Sv h s.b.length (j - s.b.length) = 27 + d.t
  c : d.c + baseV F h s * 65536 = Zv F h j * 2 ^ (16 - d.t)
  p : d.p = min (j - 1) B.length
  tle : d.t ≤ 8

/-- Where the number lies. -/
theorem Sim.between {F h : Nat → Nat} {M : Nat} {B : List Nat} {s s' : Cs} {d : Ds} {j : Nat} (S : Sim F h B s d j) (g : Good F h M s') (hb : s'.b = s.b) (ht : s'.t = s.t) :
    baseV F h s' * 2 ^ d.t ≤ Zv F h j ∧ Zv F h j < (baseV F h s' + s'.a) * 2 ^ d.t := by
  have hj := S.jle
  have l := g.low (j - s.b.length) (by omega)
  have u := g.up (j - s.b.length) (by omega)
  rw [hb, ht, S.t, show s.b.length + (j - s.b.length) = j by omega, show 27 + d.t = d.t + 27 from Nat.add_comm _ _, Nat.pow_add, ← Nat.mul_assoc] at l u
  have l2 := Nat.lt_of_mul_lt_mul_right l
  have u2 := Nat.lt_of_mul_lt_mul_right u
  exact ⟨by omega, u2⟩

theorem Sim.c_lt {F h : Nat → Nat} {M : Nat} {B : List Nat} {s : Cs} {d : Ds} {j : Nat} (S : Sim F h B s d j) (g : Good F h M s) : d.c < s.a * 65536 := by
  obtain ⟨l, u⟩ := S.between g rfl rfl
  have hc := S.c
  have ht := S.tle
  have e : (2 : Nat) ^ d.t * 2 ^ (16 - d.t) = 65536 := by rw [← Nat.pow_add, show d.t + (16 - d.t) = 16 by omega]
  have u2 := Nat.mul_lt_mul_of_pos_right u (Nat.two_pow_pos (16 - d.t))
  rw [Nat.mul_assoc, e, Nat.add_mul] at u2
  omega

/-- In which part the number lies. -/
theorem Sim.lower {F h : Nat → Nat} {B : List Nat} {s : Cs} {d : Ds} {j : Nat} (S : Sim F h B s d j) (q : Nat) : (d.c / 65536 < q ↔ Zv F h j < (baseV F h s + q) * 2 ^ d.t) := by
  have hc := S.c
  have ht := S.tle
  have e : (2 : Nat) ^ d.t * 2 ^ (16 - d.t) = 65536 := by rw [← Nat.pow_add, show d.t + (16 - d.t) = 16 by omega]
  have h1 : d.c / 65536 < q ↔ d.c < q * 65536 := Nat.div_lt_iff_lt_mul (by decide)
  rw [h1]
  have h2 : Zv F h j < (baseV F h s + q) * 2 ^ d.t ↔ Zv F h j * 2 ^ (16 - d.t) < (baseV F h s + q) * 2 ^ d.t * 2 ^ (16 - d.t) :=
    ⟨fun h => Nat.mul_lt_mul_of_pos_right h (Nat.two_pow_pos _), fun h => Nat.lt_of_mul_lt_mul_right h⟩
  rw [h2, Nat.mul_assoc, e, Nat.add_mul]
  omega

/-- A doubling. -/
theorem Sim.doubled {F h : Nat → Nat} {M : Nat} {B : List Nat} (R : Reads F h M B) {s : Cs} {d : Ds} {j : Nat} (S : Sim F h B s d j) (hw : Cw s) (ha : s.a < 32768) (gd : Good F h M (Go.Proofs.YtllhekkclhcdbaaDoor.doubled s)) :
    ∃ j', Sim F h B (Go.Proofs.YtllhekkclhcdbaaDoor.doubled s) (doubledD B d) j' := by
  obtain ⟨g, hbase, ho1, ho2⟩ := gd.doubled R.sh hw
  -- a byte comes in, if one is wanted
  have hin : ∃ j', Sim F h B s (inZ B d) j' ∧ 1 ≤ (inZ B d).t := by
    unfold inZ
    by_cases h0 : d.t = 0
    · rw [if_pos h0, R.inD d j (by have := S.jle; omega) S.p]
      obtain ⟨k7, k8⟩ := R.h_bd j
      have hc := S.c
      rw [h0, Nat.sub_zero] at hc
      have hjl := S.jle
      have hS : Sv h s.b.length (j + 1 - s.b.length) = Sv h s.b.length (j - s.b.length) + h j := by
        rw [show j + 1 - s.b.length = (j - s.b.length) + 1 by omega]
        show Sv h s.b.length (j - s.b.length) + h (s.b.length + (j - s.b.length)) = _
        rw [show s.b.length + (j - s.b.length) = j by omega]
      have hcn : d.c + F (j + 1) * 2 ^ (16 - h j) + baseV F h s * 65536 = Zv F h (j + 1) * 2 ^ (16 - h j) := by
        show _ = (Zv F h j * 2 ^ h j + F (j + 1)) * 2 ^ (16 - h j)
        rw [Nat.add_mul, Nat.mul_assoc, ← Nat.pow_add, show h j + (16 - h j) = 16 by omega, ← hc]; omega
      have S2 : Sim F h B s { a := d.a, c := d.c + F (j + 1) * 2 ^ (16 - h j), t := h j, p := min j B.length } (j + 1) :=
        ⟨S.a, by omega, by show s.t + Sv h s.b.length (j + 1 - s.b.length) = 27 + h j; have := S.t; omega, hcn, by show min j B.length = min (j + 1 - 1) B.length; rw [Nat.add_sub_cancel], by show h j ≤ 8; omega⟩
      have hlt := S2.c_lt g
      have hm : (d.c + F (j + 1) * 2 ^ (16 - h j)) % 4294967296 = d.c + F (j + 1) * 2 ^ (16 - h j) := Nat.mod_eq_of_lt (by simp only [] at hlt; omega)
      rw [hm]
      exact ⟨j + 1, S2, by show 1 ≤ h j; omega⟩
    · rw [if_neg h0]
      exact ⟨j, S, by omega⟩
  obtain ⟨j', S2, ht1⟩ := hin
  refine ⟨j', ?_⟩
  unfold doubledD
  have hlt := S2.c_lt g
  have hjl := S2.jle
  have hm : 2 * (inZ B d).c % 4294967296 = 2 * (inZ B d).c := Nat.mod_eq_of_lt (by omega)
  have ht8 := S2.tle
  have hst := S2.t
  have hsl := Sv_le R s.b.length (j' - s.b.length)
  refine ⟨?_, ?_, ?_, ?_, S2.p, by show (inZ B d).t - 1 ≤ 8; omega⟩
  · show 2 * (inZ B d).a = _; rw [doubled_a, S2.a]
  · by_cases h1 : s.t = 1
    · rw [(ho1 h1).1]; omega
    · rw [(ho2 h1).1]; exact hjl
  · show _ = 27 + ((inZ B d).t - 1)
    by_cases h1 : s.t = 1
    · rw [(ho1 h1).1, (ho1 h1).2]
      have hf := Sv_front h s.b.length (j' - (s.b.length + 1))
      rw [show j' - (s.b.length + 1) + 1 = j' - s.b.length by omega] at hf
      omega
    · rw [(ho2 h1).1, (ho2 h1).2]
      have := hw.tpos
      omega
  · show 2 * (inZ B d).c % 4294967296 + _ = Zv F h j' * 2 ^ (16 - ((inZ B d).t - 1))
    rw [hm, hbase, show 16 - ((inZ B d).t - 1) = (16 - (inZ B d).t) + 1 by omega, Nat.pow_succ, ← Nat.mul_assoc, ← S2.c]
    omega

theorem Sim.renew {F h : Nat → Nat} {M : Nat} {B : List Nat} (R : Reads F h M B) : ∀ (n : Nat) (s : Cs) (d : Ds) (j : Nat), Sim F h B s d j → Cw s → s.a < 32768 → 32768 ≤ s.a * 2 ^ n → Good F h M (renewP n s) → ∃ j', Sim F h B (renewP n s) (renewD B n d) j'
  | 0, s, d, j, _, _, ha, hn, _ => by omega
  | n + 1, s, d, j, S, hw, ha, hn, g => by
    obtain ⟨gd, _⟩ := Good.renew R.sh (n + 1) s hw ha hn g
    obtain ⟨j', S'⟩ := S.doubled R hw ha gd
    have hd := doubled_cw hw ha
    unfold renewP at g ⊢
    unfold renewD
    rw [S'.a]
    split
    · rename_i hlt
      rw [if_pos hlt] at g
      exact Sim.renew R n _ _ j' S' hd hlt (by rw [doubled_a, Nat.mul_comm 2, Nat.mul_assoc, Nat.mul_comm 2, ← Nat.pow_succ]; exact hn) g
    · exact ⟨j', S'⟩

/-- A decision. -/
theorem Sim.decision {F h : Nat → Nat} {M : Nat} {B : List Nat} (R : Reads F h M B) {s : Cs} {d : Ds} {j : Nat} (S : Sim F h B s d j) (hok : Cok s) {x : Nat} (hx : x < 94) {bit : Nat} (hbit : bit < 2) (g : Good F h M (codeP s x bit)) :
    decBit d x = bit ∧ decX d x = codeX s x bit ∧ ∃ j', Sim F h B (codeP s x bit) (decP B d x) j' := by
  obtain ⟨q1, q2⟩ := rQ_bd (x / 2) (by omega)
  obtain ⟨q, hq⟩ : ∃ q, q = rQ (x / 2) := ⟨_, rfl⟩
  have hha := hok.half
  have hsa := S.a
  have hlow := S.lower q
  have hbu : ∀ a', baseV F h { s with a := a', c := s.c + q } = baseV F h s + q := by intro a'; unfold baseV; simp only []; omega
  have hup : ∀ a' : Nat, Good F h M { s with a := a', c := s.c + q } → ¬ d.c / 65536 < q := by
    intro a' g'
    have := (S.between g' rfl rfl).1
    rw [hbu] at this
    rw [hlow]; omega
  have hsimu : ∀ a' : Nat, ¬ d.c / 65536 < q → Sim F h B { s with a := a', c := s.c + q } { d with a := a', c := d.c - q * 65536 } j := by
    intro a' hn
    have hc := S.c
    refine ⟨rfl, S.jle, S.t, ?_, S.p, S.tle⟩
    show d.c - q * 65536 + baseV F h { s with a := a', c := s.c + q } * 65536 = Zv F h j * 2 ^ (16 - d.t)
    rw [hbu, Nat.add_mul, ← hc]; omega
  rw [← hq] at q1 q2
  by_cases hst : bit = x % 2 ∧ 32768 ≤ s.a - q
  · have ep : codeP s x bit = { s with a := s.a - q, c := s.c + q } := by rw [codeP, ← hq, if_pos hst]
    rw [ep] at g
    have hn := hup _ g
    have hds : decStay d (rQ (x / 2)) := by rw [← hq]; exact ⟨hn, by rw [hsa]; exact hst.2⟩
    refine ⟨by rw [decBit, if_pos hds]; exact hst.1.symm, by rw [decX, if_pos hds, codeX, ← hq, if_pos hst], j, ?_⟩
    rw [ep, decP, if_pos hds, ← hq, decS, if_neg hn, hsa]
    exact hsimu _ hn
  · have ep : codeP s x bit = renewP 16 (codeS s q (decide (bit = x % 2))) := by rw [codeP, ← hq, if_neg hst]
    have ex : codeX s x bit = learnP (decide (bit = x % 2)) x := by rw [codeX, ← hq, if_neg hst]
    rw [ep] at g ⊢
    rw [ex]
    obtain ⟨k, hk⟩ : ∃ k, k = decide (bit = x % 2) := ⟨_, rfl⟩
    rw [← hk] at g ⊢
    have hw := codeS_cw hok q1 q2 k
    have hca := codeS_a hok q1 q2 k (by rw [hk, decide_eq_true_eq]; exact hst)
    have gs := (Good.renew R.sh 16 _ hw hca (by have := hw.apos; omega) g).2
    -- what is told
    have main : ¬ decStay d q ∧ decLikely d q = k ∧ Sim F h B (codeS s q k) (decS d q) j := by
      by_cases hkq : k = decide (s.a - q < q)
      · have es : codeS s q k = { s with a := q } := by rw [codeS, if_pos hkq]
        rw [es] at gs
        have hl : d.c / 65536 < q := hlow.2 (S.between gs rfl rfl).2
        refine ⟨fun hs => hs.1 hl, ?_, ?_⟩
        · unfold decLikely
          rw [decide_eq_true hl, hsa, ← hkq]
          cases k <;> rfl
        · rw [es, decS, if_pos hl]
          exact ⟨rfl, S.jle, S.t, S.c, S.p, S.tle⟩
      · have es : codeS s q k = { s with a := s.a - q, c := s.c + q } := by rw [codeS, if_neg hkq]
        rw [es] at gs
        have hn := hup _ gs
        refine ⟨?_, ?_, ?_⟩
        · rintro ⟨_, h2⟩
          rw [hsa] at h2
          have hf : decide (s.a - q < q) = false := decide_eq_false (by omega)
          rw [hf] at hkq
          have : k = true := by cases k <;> simp_all
          rw [hk, decide_eq_true_eq] at this
          exact hst ⟨this, h2⟩
        · unfold decLikely
          rw [decide_eq_false hn, hsa]
          revert hkq
          cases k <;> cases decide (s.a - q < q) <;> simp
        · rw [es, decS, if_neg hn, hsa]
          exact hsimu _ hn
    obtain ⟨m1, m2, m3⟩ := main
    rw [hq] at m1 m2
    refine ⟨?_, by rw [decX, if_neg m1, m2], ?_⟩
    · rw [decBit, if_neg m1, m2]
      by_cases hb : bit = x % 2
      · rw [hk, decide_eq_true hb, if_pos rfl]; exact hb.symm
      · rw [hk, decide_eq_false hb]
        simp only [Bool.false_eq_true, if_false]
        omega
    · rw [decP, if_neg m1, ← hq]
      exact Sim.renew R 16 _ _ j m3 hw hca (by have := hw.apos; omega) g

end Go.Proofs.YtllhekkclhcdbaaDoor
