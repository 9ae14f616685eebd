/- What a coder's bytes say of the intervals that it went through. -/
import Derived.Test.YtllhekkclhcdbaaDoorArM
namespace Go.Proofs.YtllhekkclhcdbaaDoor

/-- The number that bytes F with shifts h say, up to byte j. -/
def Zv (F h : Nat → Nat) : Nat → Nat
  | 0 => F 0
  | j + 1 => Zv F h j * 2 ^ h j + F (j + 1)
/-- The same without byte j itself. -/
def Yv (F h : Nat → Nat) : Nat → Nat
  | 0 => 0
  | j + 1 => Zv F h j * 2 ^ h j
theorem Zv_eq (F h : Nat → Nat) : ∀ j, Zv F h j = Yv F h j + F j
  | 0 => by simp [Zv, Yv]
  | j + 1 => rfl
/-- Shifts from byte n on. -/
def Sv (h : Nat → Nat) (n : Nat) : Nat → Nat
  | 0 => 0
  | r + 1 => Sv h n r + h (n + r)
theorem Sv_front (h : Nat → Nat) (n : Nat) : ∀ r, Sv h n (r + 1) = h n + Sv h (n + 1) r
  | 0 => by simp [Sv]
  | r + 1 => by
    show Sv h n (r + 1) + h (n + (r + 1)) = h n + (Sv h (n + 1) r + h (n + 1 + r))
    rw [Sv_front h n r, show n + (r + 1) = n + 1 + r by omega]; omega

/-- The number at which a coder stands. -/
def baseV (F h : Nat → Nat) (s : Cs) : Nat := (Yv F h s.b.length + s.l) * 2 ^ (27 - s.t) + s.c

structure Good (F h : Nat → Nat) (M : Nat) (s : Cs) : Prop where
  ext : ∀ i, i < s.b.length → F i = s.b.getD i 0
  last : s.l ≤ F s.b.length
  le : s.b.length ≤ M
  low : ∀ r, 1 ≤ r → baseV F h s * 2 ^ (s.t + Sv h s.b.length r) < (Zv F h (s.b.length + r) + 1) * 2 ^ 27
  up : ∀ r, 1 ≤ r → Zv F h (s.b.length + r) * 2 ^ 27 < (baseV F h s + s.a) * 2 ^ (s.t + Sv h s.b.length r)

/-- A decision. -/
theorem Good.shrink {F h : Nat → Nat} {M : Nat} {s s' : Cs} (g : Good F h M s') (hb : s'.b = s.b) (hl : s'.l = s.l) (ht : s'.t = s.t) (h1 : s.c ≤ s'.c) (h2 : s'.c + s'.a ≤ s.c + s.a) : Good F h M s := by
  have e1 : baseV F h s ≤ baseV F h s' := by unfold baseV; rw [hb, hl, ht]; omega
  have e2 : baseV F h s' + s'.a ≤ baseV F h s + s.a := by unfold baseV; rw [hb, hl, ht]; omega
  refine ⟨by rw [← hb]; exact g.ext, by rw [← hb, ← hl]; exact g.last, by rw [← hb]; exact g.le, fun r hr => ?_, fun r hr => ?_⟩
  · have := g.low r hr
    rw [hb, ht] at this
    exact Nat.lt_of_le_of_lt (Nat.mul_le_mul_right _ e1) this
  · have := g.up r hr
    rw [hb, ht] at this
    exact Nat.lt_of_lt_of_le this (Nat.mul_le_mul_right _ e2)

/-- Doublings without a byte. -/
theorem Good.shift {F h : Nat → Nat} {M : Nat} {s s' : Cs} (k : Nat) (g : Good F h M s') (hb : s'.b = s.b) (hl : s'.l = s.l) (ht : s.t = s'.t + k) (ht2 : s.t ≤ 27) (hc : s'.c = s.c * 2 ^ k) (ha : s'.a = s.a * 2 ^ k) : Good F h M s := by
  have e1 : baseV F h s' = baseV F h s * 2 ^ k := by
    unfold baseV
    rw [hb, hl, hc]
    generalize Yv F h s.b.length + s.l = V
    rw [show 27 - s'.t = 27 - s.t + k by omega, Nat.pow_add, Nat.add_mul, Nat.mul_assoc]
  refine ⟨by rw [← hb]; exact g.ext, by rw [← hb, ← hl]; exact g.last, by rw [← hb]; exact g.le, fun r hr => ?_, fun r hr => ?_⟩
  · have := g.low r hr
    rw [hb, e1, Nat.mul_assoc, ← Nat.pow_add, show k + (s'.t + Sv h s.b.length r) = s.t + Sv h s.b.length r by omega] at this
    exact this
  · have := g.up r hr
    rw [hb, e1, ha, ← Nat.add_mul, Nat.mul_assoc, ← Nat.pow_add, show k + (s'.t + Sv h s.b.length r) = s.t + Sv h s.b.length r by omega] at this
    exact this

theorem outL_ge (c l : Nat) : l ≤ outL c l := by unfold outL; split <;> omega
theorem outT_low (l : Nat) : outT l + outLow l = 27 := by unfold outT outLow; split <;> rfl
theorem outT_bd (l : Nat) : 7 ≤ outT l ∧ outT l ≤ 8 := by unfold outT; split <;> omega
theorem out_carry_eq (c l Y : Nat) (hc : c < 268435456) : (Y + l) * 2 ^ 27 + c = (Y + outL c l) * 2 ^ 27 + outC c l := by
  have e : (2 : Nat) ^ 27 = 134217728 := rfl
  unfold outL outC
  rw [e]
  split
  · rename_i h
    have := h.1
    omega
  · rfl
theorem out_byte_lt (c l : Nat) (hc : c < 268435456) : outC c l / 2 ^ outLow (outL c l) < 256 := by
  unfold outC outL outLow
  by_cases h : 134217728 ≤ c ∧ l ≠ 255
  · rw [if_pos h, if_pos h]
    split
    · omega
    · omega
  · rw [if_neg h, if_neg h]
    split
    · omega
    · rename_i hl
      have : c < 134217728 := by omega
      omega

theorem Good.out_base {F h : Nat → Nat} {M : Nat} {s : Cs} (hh : ∀ i, i < M → h i = outT (F i)) (g : Good F h M (outP s)) (ht : s.t = 0) (hc : s.c < 268435456) (hM : s.b.length < M) : baseV F h (outP s) = baseV F h s ∧ h s.b.length = (outP s).t := by
  have hbl : (outP s).b.length = s.b.length + 1 := by simp [outP]
  obtain ⟨N, hN⟩ : ∃ N, N = s.b.length := ⟨_, rfl⟩
  have hFN : F N = outL s.c s.l := by
    have := g.ext N (by rw [hbl]; omega)
    rw [this]
    show (s.b ++ [_]).getD N 0 = _
    rw [List.getD_eq_getElem?_getD, List.getElem?_append_right (by omega), hN, Nat.sub_self]; rfl
  have hhN : h N = outT (outL s.c s.l) := by rw [hh N (by omega), hFN]
  obtain ⟨T, hT⟩ : ∃ T, T = outT (outL s.c s.l) := ⟨_, rfl⟩
  obtain ⟨t7, t8⟩ := outT_bd (outL s.c s.l)
  have hlow : outLow (outL s.c s.l) = 27 - T := by have := outT_low (outL s.c s.l); omega
  rw [← hT] at t7 t8 hhN
  have hYN : Yv F h (N + 1) = (Yv F h N + outL s.c s.l) * 2 ^ T := by
    show Zv F h N * 2 ^ h N = _
    rw [Zv_eq, hFN, hhN]
  have hxl : outC s.c s.l / 2 ^ (27 - T) < 256 := by have := out_byte_lt s.c s.l hc; rw [hlow] at this; exact this
  have el : (outP s).l = outC s.c s.l / 2 ^ (27 - T) := by
    show outC s.c s.l / 2 ^ outLow (outL s.c s.l) % 256 = _
    rw [hlow, Nat.mod_eq_of_lt hxl]
  have ec : (outP s).c = outC s.c s.l % 2 ^ (27 - T) := by show outC s.c s.l % 2 ^ outLow (outL s.c s.l) = _; rw [hlow]
  have et : (outP s).t = T := hT.symm
  have e1 : baseV F h (outP s) = baseV F h s := by
    unfold baseV
    rw [hbl, el, ec, et, ht, ← hN, hYN, Nat.add_mul, Nat.mul_assoc, ← Nat.pow_add, show T + (27 - T) = 27 by omega, show 27 - 0 = 27 from rfl, out_carry_eq s.c s.l (Yv F h N) hc, Nat.add_assoc]
    congr 1
    rw [Nat.mul_comm]; exact Nat.div_add_mod _ _
  exact ⟨e1, by rw [← hN, hhN, et]⟩

/-- A byte goes out. -/
theorem Good.out {F h : Nat → Nat} {M : Nat} {s : Cs} (hh : ∀ i, i < M → h i = outT (F i)) (g : Good F h M (outP s)) (ht : s.t = 0) (hc : s.c < 268435456) (hM : s.b.length < M) : Good F h M s := by
  have hbl : (outP s).b.length = s.b.length + 1 := by simp [outP]
  obtain ⟨N, hN⟩ : ∃ N, N = s.b.length := ⟨_, rfl⟩
  have hFN : F N = outL s.c s.l := by
    have := g.ext N (by rw [hbl]; omega)
    rw [this]
    show (s.b ++ [_]).getD N 0 = _
    rw [List.getD_eq_getElem?_getD, List.getElem?_append_right (by omega), hN, Nat.sub_self]; rfl
  have hhN : h N = outT (outL s.c s.l) := by rw [hh N (by omega), hFN]
  obtain ⟨T, hT⟩ : ∃ T, T = outT (outL s.c s.l) := ⟨_, rfl⟩
  obtain ⟨t7, t8⟩ := outT_bd (outL s.c s.l)
  have hlow : outLow (outL s.c s.l) = 27 - T := by have := outT_low (outL s.c s.l); omega
  rw [← hT] at t7 t8 hhN
  have hYN : Yv F h (N + 1) = (Yv F h N + outL s.c s.l) * 2 ^ T := by
    show Zv F h N * 2 ^ h N = _
    rw [Zv_eq, hFN, hhN]
  have hxl : outC s.c s.l / 2 ^ (27 - T) < 256 := by have := out_byte_lt s.c s.l hc; rw [hlow] at this; exact this
  have el : (outP s).l = outC s.c s.l / 2 ^ (27 - T) := by
    show outC s.c s.l / 2 ^ outLow (outL s.c s.l) % 256 = _
    rw [hlow, Nat.mod_eq_of_lt hxl]
  have ec : (outP s).c = outC s.c s.l % 2 ^ (27 - T) := by show outC s.c s.l % 2 ^ outLow (outL s.c s.l) = _; rw [hlow]
  have et : (outP s).t = T := hT.symm
  have e1 : baseV F h (outP s) = baseV F h s := by
    unfold baseV
    rw [hbl, el, ec, et, ht, ← hN, hYN, Nat.add_mul, Nat.mul_assoc, ← Nat.pow_add, show T + (27 - T) = 27 by omega, show 27 - 0 = 27 from rfl, out_carry_eq s.c s.l (Yv F h N) hc, Nat.add_assoc]
    congr 1
    rw [Nat.mul_comm]; exact Nat.div_add_mod _ _
  have hlow1 : baseV F h s * 2 ^ (0 + Sv h N 1) < (Zv F h (N + 1) + 1) * 2 ^ 27 := by
    have hS : Sv h N 1 = T := by show Sv h N 0 + h (N + 0) = T; rw [Nat.add_zero, hhN]; show 0 + T = T; omega
    rw [Nat.zero_add, hS, ← e1]
    unfold baseV
    rw [et, hbl, ← hN, ec]
    have hlast := g.last
    rw [hbl, ← hN] at hlast
    have hz : Yv F h (N + 1) + (outP s).l + 1 ≤ Zv F h (N + 1) + 1 := by rw [Zv_eq]; omega
    have hm : outC s.c s.l % 2 ^ (27 - T) < 2 ^ (27 - T) := Nat.mod_lt _ (Nat.two_pow_pos _)
    have hk : ((Yv F h (N + 1) + (outP s).l) * 2 ^ (27 - T) + outC s.c s.l % 2 ^ (27 - T)) < (Yv F h (N + 1) + (outP s).l + 1) * 2 ^ (27 - T) := by
      rw [Nat.add_mul _ 1, Nat.one_mul]; omega
    refine Nat.lt_of_lt_of_le (Nat.mul_lt_mul_of_pos_right hk (Nat.two_pow_pos T)) ?_
    rw [Nat.mul_assoc, ← Nat.pow_add, show 27 - T + T = 27 by omega]
    exact Nat.mul_le_mul_right _ hz
  have hup : ∀ r, 1 ≤ r → Zv F h (N + 1 + r) * 2 ^ 27 < (baseV F h s + s.a) * 2 ^ (0 + Sv h N (r + 1)) := by
    intro r hr
    have := g.up r hr
    rw [hbl, ← hN, e1, et] at this
    rw [Sv_front, hhN, Nat.zero_add]
    exact this
  refine ⟨fun i hi => ?_, ?_, by omega, fun r hr => ?_, fun r hr => ?_⟩
  · rw [g.ext i (by rw [hbl]; omega)]
    show (s.b ++ [_]).getD i 0 = _
    rw [List.getD_eq_getElem?_getD, List.getElem?_append_left hi, ← List.getD_eq_getElem?_getD]
  · rw [← hN, hFN]; exact outL_ge _ _
  · rw [ht, ← hN]
    cases r with
    | zero => omega
    | succ r =>
      cases r with
      | zero => exact hlow1
      | succ r =>
        have := g.low (r + 1) (by omega)
        rw [hbl, ← hN, e1, et] at this
        rw [Sv_front, hhN, Nat.zero_add, show N + (r + 1 + 1) = N + 1 + (r + 1) by omega]
        exact this
  · rw [ht, ← hN]
    cases r with
    | zero => omega
    | succ r =>
      cases r with
      | zero =>
        have := hup 1 (Nat.le_refl _)
        have e3 : Sv h N (1 + 1) = Sv h N (0 + 1) + h (N + 1) := rfl
        have e4 : Zv F h (N + 1 + 1) = Zv F h (N + 1) * 2 ^ h (N + 1) + F (N + 1 + 1) := rfl
        rw [e3, e4, ← Nat.add_assoc, Nat.pow_add, ← Nat.mul_assoc] at this
        have h5 : Zv F h (N + (0 + 1)) * 2 ^ 27 * 2 ^ h (N + 1) ≤ (Zv F h (N + 1) * 2 ^ h (N + 1) + F (N + 1 + 1)) * 2 ^ 27 := by
          rw [Nat.mul_assoc, Nat.mul_comm (2 ^ 27), ← Nat.mul_assoc]
          exact Nat.mul_le_mul_right _ (Nat.le_add_right _ _)
        exact Nat.lt_of_mul_lt_mul_right (Nat.lt_of_le_of_lt h5 this)
      | succ r =>
        have := hup (r + 1) (by omega)
        rw [show N + (r + 1 + 1) = N + 1 + (r + 1) by omega]
        exact this

end Go.Proofs.YtllhekkclhcdbaaDoor
