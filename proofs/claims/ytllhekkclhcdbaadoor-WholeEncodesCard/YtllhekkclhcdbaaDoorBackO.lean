/- The bytes that a flush leaves. -/
import Derived.Test.YtllhekkclhcdbaaDoorBackN
namespace Go.Proofs.YtllhekkclhcdbaaDoor

/-- The bytes in the end, ones behind them; their shifts. -/
def endF (s : Cs) (i : Nat) : Nat := if i ≤ (flush2 s).b.length then ((flush2 s).b ++ [(flush2 s).l]).getD i 0 else 255
def endH (s : Cs) (i : Nat) : Nat := if i < (flush2 s).b.length then outT (endF s i) else 8

theorem endF_b (s : Cs) (i : Nat) (h : i < (flush2 s).b.length) : endF s i = (flush2 s).b.getD i 0 := by
  unfold endF; rw [if_pos (by omega), getD_snoc, if_neg (by omega)]
theorem endF_l (s : Cs) : endF s (flush2 s).b.length = (flush2 s).l := by
  unfold endF; rw [if_pos (Nat.le_refl _), getD_snoc, if_pos rfl]
theorem endF_past (s : Cs) (i : Nat) (h : (flush2 s).b.length < i) : endF s i = 255 := by
  unfold endF; rw [if_neg (by omega)]
theorem endH_in (s : Cs) : ∀ i, i < (flush2 s).b.length → endH s i = outT (endF s i) := by
  intro i hi; unfold endH; rw [if_pos hi]

theorem endZ (s : Cs) : ∀ r, Zv (endF s) (endH s) ((flush2 s).b.length + r) + 1 = (Zv (endF s) (endH s) (flush2 s).b.length + 1) * 2 ^ (8 * r) ∧ Sv (endH s) (flush2 s).b.length r = 8 * r
  | 0 => ⟨by simp, rfl⟩
  | r + 1 => by
    obtain ⟨a, b⟩ := endZ s r
    have e : endH s ((flush2 s).b.length + r) = 8 := by unfold endH; rw [if_neg (by omega)]
    constructor
    · show Zv _ _ ((flush2 s).b.length + r) * 2 ^ endH s ((flush2 s).b.length + r) + endF s ((flush2 s).b.length + r + 1) + 1 = _
      rw [e, endF_past s _ (by omega), show 8 * (r + 1) = 8 * r + 8 by omega, Nat.pow_add, ← Nat.mul_assoc, ← a]
      have : (2 : Nat) ^ 8 = 256 := rfl
      rw [this]; omega
    · show Sv _ _ r + endH s ((flush2 s).b.length + r) = _
      rw [b, e]; omega

/-- The last sixteen bits but one are ones. -/
theorem flushC_ones (c a : Nat) : flushC c a % 32768 = 32767 := by
  have e : (c ||| 65535) % 65536 = 65535 := by
    rw [show (65536 : Nat) = 2 ^ 16 from rfl, Nat.or_mod_two_pow]
    have h1 : c % 2 ^ 16 ||| 65535 % 2 ^ 16 < 2 ^ 16 := Nat.or_lt_two_pow (Nat.mod_lt _ (by decide)) (Nat.mod_lt _ (by decide))
    have h2 : 65535 % 2 ^ 16 ≤ c % 2 ^ 16 ||| 65535 % 2 ^ 16 := Nat.right_le_or
    have e3 : 65535 % 2 ^ 16 = 65535 := rfl
    rw [e3] at h1 h2 ⊢
    have : (2 : Nat) ^ 16 = 65536 := rfl
    omega
  unfold flushC
  split <;> omega
theorem flushC_ge {c a : Nat} (ha : 32768 ≤ a) : c ≤ flushC c a := by
  have : c ≤ c ||| 65535 := Nat.left_le_or
  unfold flushC; split <;> omega

theorem mod_mod_pow (x a b : Nat) (h : b ≤ a) : x % 2 ^ a % 2 ^ b = x % 2 ^ b := Nat.mod_mod_of_dvd _ (Nat.pow_dvd_pow 2 h)
theorem outC_mod (c l b : Nat) (h : b ≤ 27) : outC c l % 2 ^ b = c % 2 ^ b := by
  unfold outC
  split
  · rw [show (134217728 : Nat) = 2 ^ 27 from rfl]; exact mod_mod_pow _ _ _ h
  · rfl
theorem mul_mod_pow (y a k b : Nat) (h : b ≤ a + k) : y % 2 ^ a * 2 ^ k % 2 ^ b = y * 2 ^ k % 2 ^ b := by
  rw [← Nat.mul_mod_mul_right, ← Nat.pow_add]; exact mod_mod_pow _ _ _ h
theorem outC_mul (c l k b : Nat) (h : b ≤ 27) : outC c l * 2 ^ k % 2 ^ b = c * 2 ^ k % 2 ^ b := by
  unfold outC
  split
  · rw [show (134217728 : Nat) = 2 ^ 27 from rfl]; exact mul_mod_pow _ _ _ _ (by omega)
  · rfl
/-- What is left of C in the end. -/
theorem flush_left (s : Cs) : (flush2 s).c = flushC s.c s.a * 2 ^ (s.t + (flush1 s).t) % 2 ^ (27 - (flush2 s).t) := by
  have t2 : 27 - (flush2 s).t = outLow (outL ((flush1 s).c * 2 ^ (flush1 s).t) (flush1 s).l) := by
    show 27 - outT (outL ((flush1 s).c * 2 ^ (flush1 s).t) (flush1 s).l) = _
    have := outT_low (outL ((flush1 s).c * 2 ^ (flush1 s).t) (flush1 s).l); omega
  have l2 : outLow (outL ((flush1 s).c * 2 ^ (flush1 s).t) (flush1 s).l) ≤ 20 := by unfold outLow; split <;> omega
  have l1 : 19 ≤ outLow (outL (flushC s.c s.a * 2 ^ s.t) s.l) := by unfold outLow; split <;> omega
  have c1 : (flush1 s).c = outC (flushC s.c s.a * 2 ^ s.t) s.l % 2 ^ outLow (outL (flushC s.c s.a * 2 ^ s.t) s.l) := rfl
  have c2 : (flush2 s).c = outC ((flush1 s).c * 2 ^ (flush1 s).t) (flush1 s).l % 2 ^ outLow (outL ((flush1 s).c * 2 ^ (flush1 s).t) (flush1 s).l) := rfl
  have t1 : 7 ≤ (flush1 s).t := (outT_bd _).1
  rw [t2, c2, outC_mod _ _ _ (by omega)]
  generalize outLow (outL ((flush1 s).c * 2 ^ (flush1 s).t) (flush1 s).l) = w at l2
  rw [c1, mul_mod_pow _ _ _ _ (by omega), outC_mul _ _ _ _ (by omega), Nat.mul_assoc, ← Nat.pow_add]

theorem ones_mod : ∀ k, k < 16 → 32767 % 2 ^ k = 2 ^ k - 1 := by decide
theorem flush_room (s : Cs) (ht : 1 ≤ s.t) : 2 ^ (27 - (flush2 s).t) ≤ (flush2 s).c + 2 ^ (s.t + (flush1 s).t) := by
  have t1 : 7 ≤ (flush1 s).t := (outT_bd _).1
  have t2 : 7 ≤ (flush2 s).t := (outT_bd _).1
  have hl := flush_left s
  have ho := flushC_ones s.c s.a
  obtain ⟨u, hu⟩ : ∃ u, u = s.t + (flush1 s).t := ⟨_, rfl⟩
  obtain ⟨w, hw⟩ : ∃ w, w = 27 - (flush2 s).t := ⟨_, rfl⟩
  rw [← hu, ← hw] at hl ⊢
  by_cases h : w ≤ u
  · have := Nat.pow_le_pow_right (n := 2) (by decide) h
    omega
  · obtain ⟨k, hk⟩ : ∃ k, w = k + u := ⟨w - u, by omega⟩
    rw [hk, Nat.pow_add, Nat.mul_mod_mul_right] at hl
    have e : flushC s.c s.a % 2 ^ k = 2 ^ k - 1 := by
      rw [← ones_mod k (by omega), ← ho, show (32768 : Nat) = 2 ^ 15 from rfl]
      exact (mod_mod_pow _ _ _ (by omega)).symm
    rw [e] at hl
    have hp := Nat.two_pow_pos k
    rw [hk, Nat.pow_add, hl, Nat.sub_mul, Nat.one_mul]
    have : 2 ^ u ≤ 2 ^ k * 2 ^ u := Nat.le_mul_of_pos_left _ hp
    omega

theorem flush_good {s : Cs} (hok : Cok s) : Good (endF s) (endH s) (flush2 s).b.length s := by
  have hw := hok.cw
  have ht1 := hw.tpos
  have ht2 := hw.tlt
  have hroom := hw.room
  have hx1 : s.c ≤ flushC s.c s.a := flushC_ge hok.half
  have hx2 := flushC_lt (c := s.c) hok.half
  have hxl : flushC s.c s.a * 2 ^ s.t < 268435456 := Nat.lt_of_lt_of_le (Nat.mul_lt_mul_of_pos_right hx2 (Nat.two_pow_pos _)) hroom
  have hlen2 : (flush2 s).b.length = (flush1 s).b.length + 1 := by simp [flush2, outP]
  have hlen1 : (flush1 s).b.length = s.b.length + 1 := by simp [flush1, outP]
  have u1 : 7 ≤ (flush1 s).t ∧ (flush1 s).t ≤ 8 := outT_bd _
  have u2 : 7 ≤ (flush2 s).t ∧ (flush2 s).t ≤ 8 := outT_bd _
  have hc1 : (flush1 s).c * 2 ^ (flush1 s).t < 268435456 := by
    have e1 : (flush1 s).c = outC (flushC s.c s.a * 2 ^ s.t) s.l % 2 ^ outLow (outL (flushC s.c s.a * 2 ^ s.t) s.l) := rfl
    have e2 : (flush1 s).t = outT (outL (flushC s.c s.a * 2 ^ s.t) s.l) := rfl
    have e3 := outT_low (outL (flushC s.c s.a * 2 ^ s.t) s.l)
    have e4 : (flush1 s).c < 2 ^ outLow (outL (flushC s.c s.a * 2 ^ s.t) s.l) := by rw [e1]; exact Nat.mod_lt _ (Nat.two_pow_pos _)
    have e5 := Nat.mul_lt_mul_of_pos_right e4 (Nat.two_pow_pos (flush1 s).t)
    rw [← Nat.pow_add, e2, Nat.add_comm, e3] at e5
    have : (2 : Nat) ^ 27 = 134217728 := rfl
    rw [e2]; omega
  have g2 : Good (endF s) (endH s) (flush2 s).b.length { flush2 s with a := 2 ^ (s.t + (flush1 s).t) } := by
    have hz : Zv (endF s) (endH s) (flush2 s).b.length = Yv (endF s) (endH s) (flush2 s).b.length + (flush2 s).l := by rw [Zv_eq, endF_l]
    have hcw : (flush2 s).c < 2 ^ (27 - (flush2 s).t) := by rw [flush_left s]; exact Nat.mod_lt _ (Nat.two_pow_pos _)
    have hr := flush_room s ht1
    have hb : baseV (endF s) (endH s) { flush2 s with a := 2 ^ (s.t + (flush1 s).t) } = Zv (endF s) (endH s) (flush2 s).b.length * 2 ^ (27 - (flush2 s).t) + (flush2 s).c := by rw [hz]; rfl
    refine ⟨fun i hi => endF_b s i hi, by show (flush2 s).l ≤ endF s (flush2 s).b.length; rw [endF_l]; exact Nat.le_refl _, Nat.le_refl _, fun r _ => ?_, fun r _ => ?_⟩
    · obtain ⟨z1, z2⟩ := endZ s r
      show baseV _ _ _ * 2 ^ ((flush2 s).t + Sv _ (flush2 s).b.length r) < (Zv _ _ ((flush2 s).b.length + r) + 1) * 2 ^ 27
      rw [z1, z2, hb]
      generalize Zv (endF s) (endH s) (flush2 s).b.length = Z
      have h1 : Z * 2 ^ (27 - (flush2 s).t) + (flush2 s).c < (Z + 1) * 2 ^ (27 - (flush2 s).t) := by rw [Nat.add_mul, Nat.one_mul]; omega
      refine Nat.lt_of_lt_of_eq (Nat.mul_lt_mul_of_pos_right h1 (Nat.two_pow_pos _)) ?_
      rw [Nat.mul_assoc, ← Nat.pow_add, Nat.mul_assoc, ← Nat.pow_add]
      congr 2; omega
    · obtain ⟨z1, z2⟩ := endZ s r
      show Zv _ _ ((flush2 s).b.length + r) * 2 ^ 27 < (baseV _ _ _ + 2 ^ (s.t + (flush1 s).t)) * 2 ^ ((flush2 s).t + Sv _ (flush2 s).b.length r)
      rw [z2, hb]
      have h0 : Zv (endF s) (endH s) ((flush2 s).b.length + r) < (Zv (endF s) (endH s) (flush2 s).b.length + 1) * 2 ^ (8 * r) := by omega
      generalize Zv (endF s) (endH s) (flush2 s).b.length = Z at h0
      refine Nat.lt_of_lt_of_le (Nat.mul_lt_mul_of_pos_right h0 (Nat.two_pow_pos 27)) ?_
      have h1 : (Z + 1) * 2 ^ (27 - (flush2 s).t) ≤ Z * 2 ^ (27 - (flush2 s).t) + (flush2 s).c + 2 ^ (s.t + (flush1 s).t) := by rw [Nat.add_mul, Nat.one_mul]; omega
      refine Nat.le_trans (Nat.le_of_eq ?_) (Nat.mul_le_mul_right _ h1)
      rw [Nat.mul_assoc, ← Nat.pow_add, Nat.mul_assoc, ← Nat.pow_add]
      congr 2; omega
  have g1d : Good (endF s) (endH s) (flush2 s).b.length { flush1 s with c := (flush1 s).c * 2 ^ (flush1 s).t, t := 0, a := 2 ^ (s.t + (flush1 s).t) } :=
    Good.out (endH_in s) g2 rfl hc1 (by show (flush1 s).b.length < _; omega)
  have g1 : Good (endF s) (endH s) (flush2 s).b.length { flush1 s with a := 2 ^ s.t } :=
    g1d.shift (flush1 s).t rfl rfl (by show (flush1 s).t = 0 + (flush1 s).t; omega) (by show (flush1 s).t ≤ 27; omega) rfl (by show 2 ^ (s.t + (flush1 s).t) = 2 ^ s.t * 2 ^ (flush1 s).t; rw [Nat.pow_add])
  have g0d : Good (endF s) (endH s) (flush2 s).b.length { s with c := flushC s.c s.a * 2 ^ s.t, t := 0, a := 2 ^ s.t } :=
    Good.out (endH_in s) g1 rfl hxl (by show s.b.length < _; omega)
  have g0 : Good (endF s) (endH s) (flush2 s).b.length { s with c := flushC s.c s.a, a := 1 } :=
    g0d.shift s.t rfl rfl (by show s.t = 0 + s.t; omega) (by show s.t ≤ 27; omega) rfl (by show 2 ^ s.t = 1 * 2 ^ s.t; omega)
  exact g0.shrink rfl rfl rfl hx1 (by show flushC s.c s.a + 1 ≤ s.c + s.a; omega)

/-- No byte above 8f behind an ff in the end. -/
theorem flush_pairs {s : Cs} (hok : Cok s) (hb : Wb s) (i : Nat) (hi : i < (flush2 s).b.length) (h : endF s i = 255) : endF s (i + 1) ≤ 143 := by
  have hw := hok.cw
  have ht1 := hw.tpos
  have ht2 := hw.tlt
  have hx2 := flushC_lt (c := s.c) hok.half
  have b0 : Wb { s with c := flushC s.c s.a, a := 1 } := hb.shrink rfl rfl rfl (by show flushC s.c s.a + 1 ≤ s.c + s.a; omega)
  have b0d : Wb { s with c := flushC s.c s.a * 2 ^ s.t, t := 0, a := 2 ^ s.t } := b0.shift s.t rfl rfl (by show s.t = 0 + s.t; omega) (by show s.t ≤ 27; omega) rfl (by show 2 ^ s.t = 1 * 2 ^ s.t; omega)
  have hp : 2 ^ s.t ≤ 2 ^ 12 := Nat.pow_le_pow_right (by decide) ht2
  have e12 : (2 : Nat) ^ 12 = 4096 := rfl
  have b1 : Wb { flush1 s with a := 2 ^ s.t } := b0d.out' rfl (Nat.two_pow_pos _) (by show 2 ^ s.t < 65536; omega)
  have u1 : 7 ≤ (flush1 s).t ∧ (flush1 s).t ≤ 8 := outT_bd _
  have b1d : Wb { flush1 s with c := (flush1 s).c * 2 ^ (flush1 s).t, t := 0, a := 2 ^ (s.t + (flush1 s).t) } := b1.shift (flush1 s).t rfl rfl (by show (flush1 s).t = 0 + (flush1 s).t; omega) (by show (flush1 s).t ≤ 27; omega) rfl (by show 2 ^ (s.t + (flush1 s).t) = 2 ^ s.t * 2 ^ (flush1 s).t; rw [Nat.pow_add])
  obtain ⟨p1, p2⟩ := b1d.out rfl (Nat.two_pow_pos _)
  rw [endF_b s i hi] at h
  by_cases h2 : i + 1 < (flush2 s).b.length
  · rw [endF_b s _ h2]; exact p1 i h2 h
  · have h3 : i + 1 = (flush2 s).b.length := by omega
    rw [h3, endF_l]
    have p3 : (flush2 s).l * 2 ^ (27 - (flush2 s).t) + (flush2 s).c + 2 ^ (s.t + (flush1 s).t) ≤ 144 * 2 ^ (27 - (flush2 s).t) := p2 i h3 h
    have hq := Nat.two_pow_pos (s.t + (flush1 s).t)
    have h4 : (flush2 s).l * 2 ^ (27 - (flush2 s).t) < 144 * 2 ^ (27 - (flush2 s).t) := by omega
    have := Nat.lt_of_mul_lt_mul_right h4
    omega

end Go.Proofs.YtllhekkclhcdbaaDoor
