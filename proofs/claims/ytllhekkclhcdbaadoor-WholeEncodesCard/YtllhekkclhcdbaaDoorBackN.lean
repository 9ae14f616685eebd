/- What a coder's bytes say: through decisions, renewals and the flush. -/
import Derived.Test.YtllhekkclhcdbaaDoorBackM
import Derived.Test.YtllhekkclhcdbaaDoorDecM
namespace Go.Proofs.YtllhekkclhcdbaaDoor

theorem Good.doubled {F h : Nat → Nat} {M : Nat} {s : Cs} (hh : ∀ i, i < M → h i = outT (F i)) (hw : Cw s) (g : Good F h M (doubled s)) :
    Good F h M s ∧ baseV F h (doubled s) = 2 * baseV F h s ∧ (s.t = 1 → (doubled s).b.length = s.b.length + 1 ∧ (doubled s).t = h s.b.length) ∧ (s.t ≠ 1 → (doubled s).b.length = s.b.length ∧ (doubled s).t = s.t - 1) := by
  have h1 := hw.c_lt
  have h2 := hw.apos
  have h3 := hw.tpos
  have h4 := hw.tlt
  by_cases ht : s.t = 1
  · have e : Go.Proofs.YtllhekkclhcdbaaDoor.doubled s = outP { s with a := 2 * s.a, c := 2 * s.c, t := 0 } := by simp [Go.Proofs.YtllhekkclhcdbaaDoor.doubled, ht]
    rw [e] at g ⊢
    have hbl : (outP { s with a := 2 * s.a, c := 2 * s.c, t := 0 }).b.length = s.b.length + 1 := by simp [outP]
    have hM : s.b.length < M := by have := g.le; rw [hbl] at this; omega
    obtain ⟨b1, b2⟩ := g.out_base hh rfl (by show 2 * s.c < _; omega) hM
    have g2 := g.out hh rfl (by show 2 * s.c < _; omega) hM
    have hb : baseV F h { s with a := 2 * s.a, c := 2 * s.c, t := 0 } = 2 * baseV F h s := by
      unfold baseV
      rw [ht]
      simp only []
      generalize Yv F h s.b.length + s.l = V
      rw [show 27 - 0 = (27 - 1) + 1 from rfl, Nat.pow_succ]; omega
    refine ⟨g2.shift 1 rfl rfl (by rw [ht]) (by omega) (by show 2 * s.c = _; omega) (by show 2 * s.a = _; omega), by rw [b1, hb], fun _ => ⟨hbl, b2.symm⟩, fun hn => absurd ht hn⟩
  · have e : Go.Proofs.YtllhekkclhcdbaaDoor.doubled s = { s with a := 2 * s.a, c := 2 * s.c, t := s.t - 1 } := by simp [Go.Proofs.YtllhekkclhcdbaaDoor.doubled, ht]
    rw [e] at g ⊢
    have hb : baseV F h { s with a := 2 * s.a, c := 2 * s.c, t := s.t - 1 } = 2 * baseV F h s := by
      unfold baseV
      simp only []
      generalize Yv F h s.b.length + s.l = V
      rw [show 27 - (s.t - 1) = (27 - s.t) + 1 by omega, Nat.pow_succ, Nat.mul_add, ← Nat.mul_assoc, Nat.mul_comm (V * 2 ^ (27 - s.t)) 2]
    exact ⟨g.shift 1 rfl rfl (by show s.t = s.t - 1 + 1; omega) (by omega) (by show 2 * s.c = _; omega) (by show 2 * s.a = _; omega), hb, fun hn => absurd hn ht, fun _ => ⟨rfl, rfl⟩⟩

theorem Good.renew {F h : Nat → Nat} {M : Nat} (hh : ∀ i, i < M → h i = outT (F i)) : ∀ (n : Nat) (s : Cs), Cw s → s.a < 32768 → 32768 ≤ s.a * 2 ^ n → Good F h M (renewP n s) → Good F h M (Go.Proofs.YtllhekkclhcdbaaDoor.doubled s) ∧ Good F h M s
  | 0, s, _, ha, hn, _ => by omega
  | n + 1, s, hw, ha, hn, g => by
    have hd := doubled_cw hw ha
    have gd : Good F h M (Go.Proofs.YtllhekkclhcdbaaDoor.doubled s) := by
      unfold renewP at g
      split at g
      · rename_i hlt
        refine (Good.renew hh n _ hd hlt ?_ g).2
        rw [doubled_a, Nat.mul_comm 2, Nat.mul_assoc, Nat.mul_comm 2, ← Nat.pow_succ]; exact hn
      · exact g
    exact ⟨gd, (gd.doubled hh hw).1⟩

theorem Good.code {F h : Nat → Nat} {M : Nat} {s : Cs} (hh : ∀ i, i < M → h i = outT (F i)) (hok : Cok s) {x : Nat} (hx : x < 94) (bit : Nat) (g : Good F h M (codeP s x bit)) : Good F h M s := by
  obtain ⟨q1, q2⟩ := rQ_bd (x / 2) (by omega)
  have hha := hok.half
  unfold codeP at g
  split at g
  · exact g.shrink rfl rfl rfl (by show s.c ≤ s.c + _; omega) (by show s.c + _ + (s.a - _) ≤ s.c + s.a; omega)
  · rename_i hc
    have hw := codeS_cw hok q1 q2 (decide (bit = x % 2))
    have ha := codeS_a hok q1 q2 (decide (bit = x % 2)) (by rw [decide_eq_true_eq]; exact hc)
    have gs := (Good.renew hh 16 _ hw ha (by have := hw.apos; omega) g).2
    unfold codeS at gs
    split at gs
    · exact gs.shrink rfl rfl rfl (Nat.le_refl _) (by show s.c + rQ (x / 2) ≤ s.c + s.a; omega)
    · exact gs.shrink rfl rfl rfl (by show s.c ≤ s.c + _; omega) (by show s.c + _ + (s.a - _) ≤ s.c + s.a; omega)

/-- No byte above 8f behind an ff. -/
structure Wb (s : Cs) : Prop where
  room : (s.c + s.a) * 2 ^ s.t < 150994944
  pairs : ∀ i, i + 1 < s.b.length → s.b.getD i 0 = 255 → s.b.getD (i + 1) 0 ≤ 143
  top : ∀ i, i + 1 = s.b.length → s.b.getD i 0 = 255 → s.l * 2 ^ (27 - s.t) + s.c + s.a ≤ 144 * 2 ^ (27 - s.t)

theorem Wb.shrink {s s' : Cs} (g : Wb s) (hb : s'.b = s.b) (hl : s'.l = s.l) (ht : s'.t = s.t) (h2 : s'.c + s'.a ≤ s.c + s.a) : Wb s' := by
  refine ⟨?_, by rw [hb]; exact g.pairs, fun i hi h => ?_⟩
  · rw [ht]; exact Nat.lt_of_le_of_lt (Nat.mul_le_mul_right _ h2) g.room
  · rw [hb] at hi h
    have := g.top i hi h
    rw [ht, hl]; omega
theorem Wb.shift {s s' : Cs} (k : Nat) (g : Wb s) (hb : s'.b = s.b) (hl : s'.l = s.l) (ht : s.t = s'.t + k) (ht2 : s.t ≤ 27) (hc : s'.c = s.c * 2 ^ k) (ha : s'.a = s.a * 2 ^ k) : Wb s' := by
  refine ⟨?_, by rw [hb]; exact g.pairs, fun i hi h => ?_⟩
  · rw [hc, ha, ← Nat.add_mul, Nat.mul_assoc, ← Nat.pow_add, show k + s'.t = s.t by omega]; exact g.room
  · rw [hb] at hi h
    have := Nat.mul_le_mul_right (2 ^ k) (g.top i hi h)
    rw [Nat.add_mul, Nat.add_mul, Nat.mul_assoc, Nat.mul_assoc, ← Nat.pow_add] at this
    rw [hl, hc, ha, show 27 - s'.t = 27 - s.t + k by omega]; exact this
theorem Wb.last {s : Cs} (g : Wb s) (hpos : 1 ≤ s.a) (i : Nat) (hi : i + 1 = s.b.length) (h : s.b.getD i 0 = 255) : s.l ≤ 143 := by
  have := g.top i hi h
  have hp := Nat.two_pow_pos (27 - s.t)
  have : s.l * 2 ^ (27 - s.t) < 144 * 2 ^ (27 - s.t) := by omega
  have := Nat.lt_of_mul_lt_mul_right this
  omega

theorem getD_snoc (l : List Nat) (x i : Nat) : (l ++ [x]).getD i 0 = if i = l.length then x else l.getD i 0 := by
  rw [List.getD_eq_getElem?_getD, List.getD_eq_getElem?_getD]
  by_cases h : i < l.length
  · rw [List.getElem?_append_left h, if_neg (by omega)]
  · rw [List.getElem?_append_right (by omega)]
    by_cases h2 : i = l.length
    · rw [if_pos h2, h2, Nat.sub_self]; rfl
    · rw [if_neg h2, List.getElem?_eq_none (by simp; omega), List.getElem?_eq_none (by omega)]

theorem Wb.out {s : Cs} (g : Wb s) (ht : s.t = 0) (hpos : 1 ≤ s.a) :
    (∀ i, i + 1 < (outP s).b.length → (outP s).b.getD i 0 = 255 → (outP s).b.getD (i + 1) 0 ≤ 143) ∧ (∀ i, i + 1 = (outP s).b.length → (outP s).b.getD i 0 = 255 → (outP s).l * 2 ^ (27 - (outP s).t) + (outP s).c + s.a ≤ 144 * 2 ^ (27 - (outP s).t)) := by
  have hr := g.room
  rw [ht, Nat.pow_zero, Nat.mul_one] at hr
  have hbl : (outP s).b.length = s.b.length + 1 := by simp [outP]
  have hg : ∀ i, (outP s).b.getD i 0 = if i = s.b.length then outL s.c s.l else s.b.getD i 0 := fun i => getD_snoc _ _ _
  refine ⟨fun i hi h => ?_, fun i hi h => ?_⟩
  · rw [hbl] at hi
    rw [hg, if_neg (by omega)] at h
    rw [hg]
    by_cases h2 : i + 1 = s.b.length
    · rw [if_pos h2]
      have ht2 := g.top i h2 h
      rw [ht] at ht2
      have e : (2 : Nat) ^ (27 - 0) = 134217728 := rfl
      rw [e] at ht2
      unfold outL
      split
      · rename_i hc; have := hc.1; omega
      · omega
    · rw [if_neg h2]; exact g.pairs i (by omega) h
  · rw [hbl] at hi
    rw [hg, if_pos (by omega)] at h
    have hT : (outP s).t = 7 := by show outT (outL s.c s.l) = 7; rw [h]; rfl
    have hlo : outLow (outL s.c s.l) = 20 := by rw [h]; rfl
    have hcl : outC s.c s.l ≤ s.c := by unfold outC; split <;> omega
    have ec : (outP s).c = outC s.c s.l % 2 ^ 20 := by show outC s.c s.l % 2 ^ outLow _ = _; rw [hlo]
    have el : (outP s).l = outC s.c s.l / 2 ^ 20 % 256 := by show outC s.c s.l / 2 ^ outLow _ % 256 = _; rw [hlo]
    rw [hT, ec, el, show 27 - 7 = 20 from rfl, show (2 : Nat) ^ 20 = 1048576 from rfl]
    omega

theorem Wb.out' {s : Cs} (g : Wb s) (ht : s.t = 0) (hpos : 1 ≤ s.a) (ha : s.a < 65536) : Wb (outP s) := by
  obtain ⟨h1, h2⟩ := g.out ht hpos
  refine ⟨?_, h1, h2⟩
  show (outC s.c s.l % 2 ^ outLow (outL s.c s.l) + s.a) * 2 ^ outT (outL s.c s.l) < 150994944
  unfold outLow outT
  split
  · have : outC s.c s.l % 2 ^ 20 < 2 ^ 20 := Nat.mod_lt _ (by decide)
    omega
  · have : outC s.c s.l % 2 ^ 19 < 2 ^ 19 := Nat.mod_lt _ (by decide)
    omega

theorem Wb.doubled {s : Cs} (g : Wb s) (hw : Cw s) (ha : s.a < 32768) : Wb (Go.Proofs.YtllhekkclhcdbaaDoor.doubled s) := by
  have h2 := hw.apos
  have h3 := hw.tpos
  have h4 := hw.tlt
  unfold Go.Proofs.YtllhekkclhcdbaaDoor.doubled
  split
  · rename_i ht
    refine Wb.out' (s := { s with a := 2 * s.a, c := 2 * s.c, t := 0 }) (g.shift 1 rfl rfl (by rw [ht]) (by omega) (by show 2 * s.c = _; omega) (by show 2 * s.a = _; omega)) rfl (by show 1 ≤ 2 * s.a; omega) (by show 2 * s.a < 65536; omega)
  · exact g.shift 1 rfl rfl (by show s.t = s.t - 1 + 1; omega) (by omega) (by show 2 * s.c = _; omega) (by show 2 * s.a = _; omega)
theorem Wb.renew : ∀ (n : Nat) (s : Cs), Wb s → Cw s → s.a < 32768 → Wb (renewP n s)
  | 0, s, g, _, _ => g
  | n + 1, s, g, hw, ha => by
    unfold renewP
    split
    · rename_i hlt
      exact Wb.renew n _ (g.doubled hw ha) (doubled_cw hw ha) hlt
    · exact g.doubled hw ha
theorem Wb.code {s : Cs} (g : Wb s) (hok : Cok s) {x : Nat} (hx : x < 94) (bit : Nat) : Wb (codeP s x bit) := by
  obtain ⟨q1, q2⟩ := rQ_bd (x / 2) (by omega)
  have hha := hok.half
  unfold codeP
  split
  · exact g.shrink rfl rfl rfl (by show s.c + _ + (s.a - _) ≤ s.c + s.a; omega)
  · rename_i hc
    have hw := codeS_cw hok q1 q2 (decide (bit = x % 2))
    have ha := codeS_a hok q1 q2 (decide (bit = x % 2)) (by rw [decide_eq_true_eq]; exact hc)
    refine Wb.renew 16 _ ?_ hw ha
    unfold codeS
    split
    · exact g.shrink rfl rfl rfl (by show s.c + rQ (x / 2) ≤ s.c + s.a; omega)
    · exact g.shrink rfl rfl rfl (by show s.c + _ + (s.a - _) ≤ s.c + s.a; omega)

end Go.Proofs.YtllhekkclhcdbaaDoor
