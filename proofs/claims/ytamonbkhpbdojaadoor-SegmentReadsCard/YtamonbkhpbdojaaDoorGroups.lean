/- A number's groups of seven bits; what is left of a writer that is cut back. Plain mathematics. -/
import Derived.Test.YtamonbkhpbdojaaDoorBits
namespace Go.Proofs.YtamonbkhpbdojaaDoor
set_option maxRecDepth 100000

def groupsF : Nat → Nat → List Nat
  | 0, n => [n]
  | f + 1, n => if n < 128 then [n] else (n % 128 + 128) :: groupsF f (n / 128)

def groups (n : Nat) : List Nat := groupsF n n
def varBits (n : Nat) : List Bool := (groups n).flatMap fun g => bitsOf g 8

theorem groupsF_fuel : ∀ (f f' n : Nat), n ≤ f → n ≤ f' → groupsF f n = groupsF f' n := by
  intro f
  induction f with
  | zero =>
    intro f' n h h'
    have : n = 0 := by omega
    subst this
    cases f' with
    | zero => rfl
    | succ f' => simp [groupsF]
  | succ f ih =>
    intro f' n h h'
    cases f' with
    | zero =>
      have : n = 0 := by omega
      subst this
      simp [groupsF]
    | succ f' =>
      simp only [groupsF]
      split
      · rfl
      · rw [ih f' (n / 128) (by omega) (by omega)]

theorem groups_small (n : Nat) (h : n < 128) : groups n = [n] := by
  unfold groups
  cases n with
  | zero => rfl
  | succ n => simp only [groupsF]; rw [if_pos h]

theorem groups_more (n : Nat) (h : 128 ≤ n) : groups n = (n % 128 + 128) :: groups (n / 128) := by
  unfold groups
  cases n with
  | zero => omega
  | succ n =>
    simp only [groupsF]
    rw [if_neg (by omega), groupsF_fuel n ((n + 1) / 128) _ (by omega) (Nat.le_refl _)]

theorem length_flat (l : List Nat) : (l.flatMap fun g => bitsOf g 8).length = 8 * l.length := by
  induction l with
  | nil => rfl
  | cons a l ih => simp only [List.flatMap_cons, List.length_append, length_bitsOf, List.length_cons, ih]; omega

theorem length_varBits (n : Nat) : (varBits n).length = 8 * (groups n).length := length_flat _

theorem varBits_small (n : Nat) (h : n < 128) : varBits n = bitsOf n 8 := by
  unfold varBits; rw [groups_small n h]; simp

theorem varBits_more (n : Nat) (h : 128 ≤ n) : varBits n = bitsOf (n % 128 + 128) 8 ++ varBits (n / 128) := by
  unfold varBits; rw [groups_more n h]; simp

theorem length_varBits_pos (n : Nat) : 8 ≤ (varBits n).length := by
  by_cases h : n < 128
  · rw [varBits_small n h, length_bitsOf]; omega
  · rw [varBits_more n (by omega), List.length_append, length_bitsOf]; omega

theorem length_groups_le : ∀ (k n : Nat), n < 128 ^ (k + 1) → (groups n).length ≤ k + 1 := by
  intro k
  induction k with
  | zero => intro n h; rw [groups_small n (by simpa using h)]; simp
  | succ k ih =>
    intro n h
    by_cases hn : n < 128
    · rw [groups_small n hn]; simp
    · rw [groups_more n (by omega)]
      have : n / 128 < 128 ^ (k + 1) := by
        rw [Nat.div_lt_iff_lt_mul (by omega), ← Nat.pow_succ]; exact h
      have := ih _ this
      simp; omega

theorem length_groups_u64 (n : Nat) (h : n < 18446744073709551616) : (groups n).length ≤ 10 :=
  length_groups_le 9 n (Nat.lt_of_lt_of_le h (by decide))

/-- Bytes of a beginning. -/
theorem byte_front (bs ext : List Bool) (j : Nat) (h : 8 * j + 8 ≤ bs.length) : byteAt (bs ++ ext) j = byteAt bs j := byte_keep _ _ _ h

theorem byte_mask (bs ext : List Bool) : byteAt bs (bs.length / 8) = byteAt (bs ++ ext) (bs.length / 8) &&& (255 * 2 ^ (8 - bs.length % 8) % 256) := by
  apply Nat.eq_of_testBit_eq
  intro i
  have e256 : (256 : Nat) = 2 ^ 8 := rfl
  have e255 : (255 : Nat) = 2 ^ 8 - 1 := rfl
  rw [Nat.testBit_and, byteAt, byteAt, byteF_testBit, byteF_testBit, e256, Nat.testBit_mod_two_pow, Nat.testBit_mul_two_pow, e255, Nat.testBit_two_pow_sub_one, bit_append]
  by_cases hi : i < 8
  · simp only [hi, decide_true, Bool.true_and]
    by_cases hk : 8 * (bs.length / 8) + (7 - i) < bs.length
    · have h1 : 8 - bs.length % 8 ≤ i := by omega
      have h2 : i - (8 - bs.length % 8) < 8 := by omega
      simp [hk, h1, h2]
    · have h1 : ¬ (8 - bs.length % 8 ≤ i) := by omega
      rw [bit_past bs _ (by omega)]
      simp [h1]
  · simp [hi]

theorem pack_cut0 (bs ext : List Bool) (hu : bs.length % 8 = 0) : pack bs = (pack (bs ++ ext)).take ((bs.length + 7) / 8) := by
  apply List.ext_getElem?
  intro j
  rw [List.getElem?_take]
  by_cases hj : j < (bs.length + 7) / 8
  · rw [if_pos hj, pack_get _ _ hj, pack_get _ _ (by rw [List.length_append]; omega), byte_keep _ _ _ (by omega)]
  · rw [if_neg hj, List.getElem?_eq_none (by rw [length_pack]; omega)]

theorem pack_cut (bs ext : List Bool) (hu : bs.length % 8 ≠ 0) : pack bs = ((pack (bs ++ ext)).take ((bs.length + 7) / 8)).set ((bs.length + 7) / 8 - 1) (byteAt (bs ++ ext) (bs.length / 8) &&& (255 * 2 ^ (8 - bs.length % 8) % 256)) := by
  rw [← byte_mask bs ext]
  apply List.ext_getElem?
  intro j
  rw [List.getElem?_set, List.getElem?_take, List.length_take, length_pack, List.length_append]
  by_cases hj : j < (bs.length + 7) / 8
  · rw [if_pos hj, pack_get _ _ hj]
    split
    · rw [if_pos (by omega), show bs.length / 8 = j from by omega]
    · rw [pack_get _ _ (by rw [List.length_append]; omega), byte_keep _ _ _ (by omega)]
  · rw [if_neg hj, List.getElem?_eq_none (by rw [length_pack]; omega)]
    split
    · rw [if_neg (by omega)]
    · rfl

theorem pack_front (bs ext : List Bool) : (pack (bs ++ ext)).length = (bs.length + ext.length + 7) / 8 := by rw [length_pack, List.length_append]

end Go.Proofs.YtamonbkhpbdojaaDoor
