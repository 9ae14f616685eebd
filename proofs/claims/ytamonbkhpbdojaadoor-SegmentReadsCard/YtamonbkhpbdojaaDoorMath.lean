/- What was written is read again: plain mathematics of bytes, bits and groups. -/
import Derived.Test.YtamonbkhpbdojaaDoorRback
namespace Go.Proofs.YtamonbkhpbdojaaDoor
set_option maxRecDepth 100000

def flat (l : List Nat) : List Bool := l.flatMap fun g => bitsOf g 8
theorem flat_nil : flat [] = [] := rfl
theorem flat_cons (a : Nat) (l : List Nat) : flat (a :: l) = bitsOf a 8 ++ flat l := by simp [flat]
theorem flat_append (a b : List Nat) : flat (a ++ b) = flat a ++ flat b := by simp [flat]
theorem flat_length (l : List Nat) : (flat l).length = 8 * l.length := length_flat l
theorem varBits_flat (n : Nat) : varBits n = flat (groups n) := rfl

theorem bit_flat (l : List Nat) : ∀ i, i < 8 * l.length → bit (flat l) i = (l[i / 8]?.getD 0).testBit (7 - i % 8) := by
  induction l with
  | nil => intro i h; simp at h
  | cons a l ih =>
    intro i h
    rw [flat_cons, bit_append, length_bitsOf]
    by_cases h8 : i < 8
    · rw [if_pos h8, bit_bitsOf]
      have e : i / 8 = 0 := by omega
      simp [h8, e]
      congr 1; omega
    · rw [if_neg h8, ih (i - 8) (by simp at h; omega)]
      have e1 : i / 8 = (i - 8) / 8 + 1 := by omega
      rw [e1, List.getElem?_cons_succ]
      congr 1; omega

theorem unpack_flat (l : List Nat) : unpack l = flat l := by
  apply ext_bit
  · rw [length_unpack, flat_length]
  · intro k hk
    rw [length_unpack] at hk
    rw [bit_unpack, bit_flat l k hk]
    simp [hk]

theorem pack_flat (l : List Nat) (hl : ∀ x ∈ l, x < 256) : pack (flat l) = l := by
  apply List.ext_getElem?
  intro j
  by_cases hj : j < l.length
  · rw [pack_get _ _ (by rw [flat_length]; omega), List.getElem?_eq_getElem hj]
    congr 1
    apply Nat.eq_of_testBit_eq
    intro i
    rw [byteAt, byteF_testBit]
    by_cases hi : i < 8
    · simp only [hi, decide_true, Bool.true_and]
      rw [bit_flat l _ (by omega), show (8 * j + (7 - i)) / 8 = j from by omega, List.getElem?_eq_getElem hj]
      simp only [Option.getD_some]
      congr 1; omega
    · rw [Nat.testBit_lt_two_pow (Nat.lt_of_lt_of_le (hl _ (List.getElem_mem hj)) (show 2 ^ 8 ≤ 2 ^ i from Nat.pow_le_pow_right (by omega) (by omega)))]
      simp [hi]
  · rw [List.getElem?_eq_none (show (pack (flat l)).length ≤ j from by rw [length_pack, flat_length]; omega), List.getElem?_eq_none (show l.length ≤ j from by omega)]

theorem groups_lt : ∀ (k n : Nat), n < 128 ^ (k + 1) → ∀ x ∈ groups n, x < 256 := by
  intro k
  induction k with
  | zero => intro n h x hx; rw [groups_small n (by simpa using h)] at hx; simp at hx; simp at h; omega
  | succ k ih =>
    intro n h x hx
    by_cases hn : n < 128
    · rw [groups_small n hn] at hx; simp at hx; omega
    · rw [groups_more n (by omega)] at hx
      have : n / 128 < 128 ^ (k + 1) := by
        rw [Nat.div_lt_iff_lt_mul (by omega), ← Nat.pow_succ]; exact h
      simp only [List.mem_cons] at hx
      rcases hx with rfl | hx
      · omega
      · exact ih _ this x hx

theorem groups_lt_u64 (n : Nat) (h : n < 18446744073709551616) : ∀ x ∈ groups n, x < 256 :=
  groups_lt 9 n (Nat.lt_of_lt_of_le h (by decide))

theorem num_byte (g : Nat) (h : g < 256) : num (bitsOf g 8) = g := by rw [num_bitsOf]; exact Nat.mod_eq_of_lt h

/-- Groups that stand at p are read as their number. -/
theorem rvarF_back (l : List Nat) : ∀ (f place acc p m : Nat), f = 9 - place → place ≤ 9 → m < 2 ^ (64 - 7 * place) → (0 < place → 0 < m) → p + (varBits m).length ≤ 8 * l.length → nextBits l p (varBits m).length = varBits m →
    rvarF l (f + 1) place acc p = (acc + m * 2 ^ (7 * place), 0, p + (varBits m).length) := by
  intro f
  induction f with
  | zero =>
    intro place acc p m hf hp hm h0 hlen hnb
    have h9 : place = 9 := by omega
    subst h9
    have hm2 : m < 2 := by simpa using hm
    rw [varBits_small m (by omega), length_bitsOf] at hlen hnb ⊢
    have hG : num (nextBits l p 8) = m := by rw [hnb, num_byte m (by omega)]
    rw [rvarF_last l 0 9 acc p (by omega) (by rw [hG]; omega) (by omega), hG, Nat.mod_eq_of_lt (by omega)]
  | succ f ih =>
    intro place acc p m hf hp hm h0 hlen hnb
    by_cases hs : m < 128
    · rw [varBits_small m hs, length_bitsOf] at hlen hnb ⊢
      have hG : num (nextBits l p 8) = m := by rw [hnb, num_byte m (by omega)]
      rw [rvarF_last l (f + 1) place acc p (by omega) (by rw [hG]; omega) (by omega), hG, Nat.mod_eq_of_lt hs]
    · rw [varBits_more m (by omega), List.length_append, length_bitsOf] at hlen hnb ⊢
      rw [nextBits_add] at hnb
      have hl8 := length_nextBits l p 8 (by omega)
      obtain ⟨hA, hB⟩ := List.append_inj hnb (by rw [hl8, length_bitsOf])
      have hG : num (nextBits l p 8) = m % 128 + 128 := by rw [hA, num_byte _ (by omega)]
      have hpw : 2 ^ (64 - 7 * place) = 128 * 2 ^ (64 - 7 * (place + 1)) := by
        rw [show 64 - 7 * place = 64 - 7 * (place + 1) + 7 from by omega, Nat.pow_add, Nat.mul_comm]
      rw [rvarF_more l (f + 1) place acc p (by omega) (by rw [hG]; omega) (by omega), ih (place + 1) _ (p + 8) (m / 128) (by omega) (by omega) (by rw [hpw] at hm; omega) (by omega) (by omega) hB, hG]
      have e2 : 2 ^ (7 * (place + 1)) = 128 * 2 ^ (7 * place) := by rw [show 7 * (place + 1) = 7 * place + 7 from by omega, Nat.pow_add, Nat.mul_comm]
      have e3 : (m % 128 + 128) % 128 = m % 128 := by omega
      have e4 : m * 2 ^ (7 * place) = m % 128 * 2 ^ (7 * place) + m / 128 * (128 * 2 ^ (7 * place)) := by
        rw [← Nat.mul_assoc, ← Nat.add_mul, show m % 128 + m / 128 * 128 = m from by omega]
      rw [e2, e3, e4, Nat.add_assoc, Nat.add_assoc]

theorem rvar_back (l : List Nat) (p n : Nat) (hn : n < 18446744073709551616) (hlen : p + (varBits n).length ≤ 8 * l.length) (hnb : nextBits l p (varBits n).length = varBits n) : rvar l p = (n, 0, p + (varBits n).length) := by
  have := rvarF_back l 9 0 0 p n rfl (by omega) hn (by omega) hlen hnb
  rw [rvar, this]
  simp

/-- Groups whose last one is missing. -/
theorem rvarF_short (l : List Nat) : ∀ (gs : List Nat) (f place acc p : Nat), f = 9 - place → place + gs.length ≤ 9 → (∀ g ∈ gs, 128 ≤ g ∧ g < 256) → 8 * l.length = p + 8 * gs.length → nextBits l p (8 * gs.length) = flat gs →
    (rvarF l (f + 1) place acc p).2.1 = 14 := by
  intro gs
  induction gs with
  | nil => intro f place acc p hf hp hg hl hnb; rw [rvarF_end l f place acc p (by simp at hl; omega)]
  | cons g gs ih =>
    intro f place acc p hf hp hg hl hnb
    simp only [List.length_cons] at hp hl hnb
    have hg0 := hg g (by simp)
    rw [show 8 * (gs.length + 1) = 8 + 8 * gs.length from by omega, nextBits_add, flat_cons] at hnb
    have hl8 := length_nextBits l p 8 (by omega)
    obtain ⟨hA, hB⟩ := List.append_inj hnb (by rw [hl8, length_bitsOf])
    have hG : num (nextBits l p 8) = g := by rw [hA, num_byte g hg0.2]
    cases f with
    | zero => omega
    | succ f =>
      rw [rvarF_more l (f + 1) place acc p (by omega) (by rw [hG]; omega) (by omega)]
      exact ih f (place + 1) _ (p + 8) (by omega) (by omega) (fun x hx => hg x (by simp [hx])) (by omega) hB

theorem groups_front : ∀ (k n : Nat), n < 128 ^ (k + 1) → ∀ j, j + 1 < (groups n).length → 128 ≤ (groups n)[j]?.getD 0 := by
  intro k
  induction k with
  | zero => intro n h j hj; rw [groups_small n (by simpa using h)] at hj; simp at hj
  | succ k ih =>
    intro n h j hj
    by_cases hn : n < 128
    · rw [groups_small n hn] at hj; simp at hj
    · rw [groups_more n (by omega)] at hj ⊢
      have hlt : n / 128 < 128 ^ (k + 1) := by
        rw [Nat.div_lt_iff_lt_mul (by omega), ← Nat.pow_succ]; exact h
      cases j with
      | zero => simp
      | succ j =>
        rw [List.getElem?_cons_succ]
        exact ih _ hlt j (by simp at hj; omega)

theorem nextBits_all (l : List Nat) : nextBits l 0 (8 * l.length) = flat l := by
  unfold nextBits
  rw [List.drop_zero, unpack_flat, List.take_of_length_le (by rw [flat_length]; omega)]

theorem nextBits_front (a b : List Nat) : nextBits (a ++ b) 0 (8 * a.length) = flat a := by
  unfold nextBits
  rw [List.drop_zero, unpack_flat, flat_append, List.take_append_of_le_length (by rw [flat_length]; omega), List.take_of_length_le (by rw [flat_length]; omega)]

theorem rvar_short (n k : Nat) (hn : n < 18446744073709551616) (hk : k < (groups n).length) : (rvar ((groups n).take k) 0).2.1 = 14 := by
  have hl10 := length_groups_u64 n hn
  have hlk : ((groups n).take k).length = k := by rw [List.length_take]; omega
  refine rvarF_short _ ((groups n).take k) 9 0 0 0 rfl (by omega) ?_ (by omega) (nextBits_all _)
  intro g hg
  obtain ⟨j, hj, e⟩ := List.mem_iff_getElem.1 hg
  rw [hlk] at hj
  rw [List.getElem_take] at e
  refine ⟨?_, groups_lt_u64 n hn g (List.mem_of_mem_take hg)⟩
  have := groups_front 9 n (Nat.lt_of_lt_of_le hn (by decide)) j (by omega)
  rw [List.getElem?_eq_getElem (by omega), Option.getD_some, e] at this
  exact this

theorem pack_varBits (n : Nat) (hn : n < 18446744073709551616) : pack ([] ++ varBits n) = groups n := by
  rw [List.nil_append, varBits_flat, pack_flat _ (groups_lt_u64 n hn)]

theorem rvar_with (n : Nat) (hn : n < 18446744073709551616) (b : List Nat) : rvar (groups n ++ b) 0 = (n, 0, 8 * (groups n).length) := by
  have := rvar_back (groups n ++ b) 0 n hn (by rw [length_varBits, List.length_append]; omega) (by rw [length_varBits, varBits_flat, nextBits_front])
  rw [this, length_varBits, Nat.zero_add]

end Go.Proofs.YtamonbkhpbdojaaDoor
