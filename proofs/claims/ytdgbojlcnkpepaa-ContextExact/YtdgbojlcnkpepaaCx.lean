import Derived.Test.YtdgbojlcnkpepaaPix
namespace Go.Proofs.Ytdgbojlcnkpepaa

/-- The pixel at any place; 0 outside. -/
def pixI (W H : Nat) (P : Nat → Nat → Bool) (x y : Int) : Nat := if 0 ≤ x ∧ x < W ∧ 0 ≤ y ∧ y < H then (P x.toNat y.toNat).toNat else 0
theorem pixI_le (W H : Nat) (P : Nat → Nat → Bool) (x y : Int) : pixI W H P x y ≤ 1 := by
  unfold pixI; split
  · exact Bool.toNat_le _
  · omega

/-- `n` more binary digits. -/
def gathN (p : Nat → Nat) : Nat → Nat → Nat
  | 0, a => a
  | n + 1, a => 2 * gathN p n a + p n
theorem gathN_lt (p : Nat → Nat) (hp : ∀ k, p k ≤ 1) (m a : Nat) (ha : a < 2 ^ m) : ∀ n, gathN p n a < 2 ^ (m + n)
  | 0 => ha
  | n + 1 => by
    have h1 := gathN_lt p hp m a ha n
    have h2 := hp n
    rw [gathN, ← Nat.add_assoc, Nat.pow_succ]; omega
theorem gathN_split (p : Nat → Nat) (a : Nat) : ∀ n, gathN p n a = a * 2 ^ n + gathN p n 0
  | 0 => by simp [gathN]
  | n + 1 => by
    rw [gathN, gathN, gathN_split p a n, Nat.pow_succ, Nat.mul_add, ← Nat.mul_assoc a, Nat.mul_comm (a * 2 ^ n) 2, Nat.add_assoc]
theorem gathN_congr {p q : Nat → Nat} (a : Nat) : ∀ n, (∀ k, k < n → p k = q k) → gathN p n a = gathN q n a
  | 0, _ => rfl
  | n + 1, h => by rw [gathN, gathN, gathN_congr a n (fun k hk => h k (by omega)), h n (by omega)]
theorem gathN_front (p : Nat → Nat) : ∀ m n, gathN p (m + n) 0 = gathN p m 0 * 2 ^ n + gathN (fun k => p (m + k)) n 0
  | m, 0 => by simp [gathN]
  | m, n + 1 => by
    rw [← Nat.add_assoc, gathN, gathN, gathN_front p m n, Nat.pow_succ, Nat.mul_add, ← Nat.mul_assoc (gathN p m 0), Nat.mul_comm (gathN p m 0 * 2 ^ n) 2, Nat.add_assoc]
theorem gathN_mod (p : Nat → Nat) (hp : ∀ k, p k ≤ 1) (m n : Nat) : gathN p (m + n) 0 % 2 ^ n = gathN (fun k => p (m + k)) n 0 := by
  have h := gathN_lt (fun k => p (m + k)) (fun k => hp _) 0 0 (by decide) n
  rw [gathN_front, Nat.add_comm, Nat.add_mul_mod_self_right, Nat.mod_eq_of_lt (by simpa using h)]
theorem gathN_step (p : Nat → Nat) (j c : Nat) : gathN p (j + 1) 0 % 2 ^ c = (2 * (gathN p j 0 % 2 ^ c) + p j) % 2 ^ c := by
  rw [gathN, Nat.add_mod, Nat.mul_mod, Nat.add_mod (2 * (gathN p j 0 % 2 ^ c)), Nat.mul_mod 2 (gathN p j 0 % 2 ^ c), Nat.mod_mod]
theorem gathN_zero {p : Nat → Nat} : ∀ n, (∀ k, k < n → p k = 0) → gathN p n 0 = 0
  | 0, _ => rfl
  | n + 1, h => by rw [gathN, gathN_zero n (fun k hk => h k (by omega)), h n (by omega)]

/-- The first and the last place of a template's row. -/
def fstS : Nat → Nat → Int
  | 0, 0 => -2 | 0, 1 => -3 | 0, _ => -4
  | 1, 0 => -1 | 1, 1 => -2 | 1, _ => -3
  | 2, 0 => -1 | 2, 1 => -2 | 2, _ => -2
  | _, 0 => 0 | _, 1 => -3 | _, _ => -4
def lstS : Nat → Nat → Int
  | 0, 0 => 2 | 0, 1 => 3 | 0, _ => -1
  | 1, 0 => 2 | 1, 1 => 3 | 1, _ => -1
  | 2, 0 => 1 | 2, 1 => 2 | 2, _ => -1
  | _, 0 => -1 | _, 1 => 2 | _, _ => -1
def cntS (t i : Nat) : Nat := (lstS t i - fstS t i + 1).toNat

theorem span_facts (t i : Nat) (ht : t < 4) (hi : i < 3) : -4 ≤ fstS t i ∧ fstS t i ≤ 0 ∧ -1 ≤ lstS t i ∧ lstS t i ≤ 3 ∧ lstS t i - fstS t i + 1 = (cntS t i : Int) ∧ cntS t i ≤ 7 := by
  have h : ∀ t, t < 4 → ∀ i, i < 3 → -4 ≤ fstS t i ∧ fstS t i ≤ 0 ∧ -1 ≤ lstS t i ∧ lstS t i ≤ 3 ∧ lstS t i - fstS t i + 1 = (cntS t i : Int) ∧ cntS t i ≤ 7 := by decide
  exact h t ht i hi
theorem last_own (t : Nat) : lstS t 2 = -1 := by
  match t with
  | 0 => rfl | 1 => rfl | 2 => rfl | _ + 3 => rfl

/-- A context behind `k` rows of a template. -/
def ctxK (q : Int → Int → Nat) (t : Nat) (x y : Int) : Nat → Nat
  | 0 => 0
  | k + 1 => gathN (fun j => q (x + fstS t k + j) (y - 2 + k)) (cntS t k) (ctxK q t x y k)
def ctx (q : Int → Int → Nat) (t : Nat) (x y : Int) : Nat := ctxK q t x y 3
def bitsK (t : Nat) : Nat → Nat
  | 0 => 0
  | k + 1 => bitsK t k + cntS t k
def sizeT (t : Nat) : Nat := 2 ^ bitsK t 3
theorem bits_le (t : Nat) (ht : t < 4) : bitsK t 3 ≤ 16 := by
  have h : ∀ t, t < 4 → bitsK t 3 ≤ 16 := by decide
  exact h t ht
theorem bitsK_le (t k : Nat) (ht : t < 4) (hk : k ≤ 3) : bitsK t k ≤ 16 := by
  have h : ∀ t, t < 4 → ∀ k, k < 4 → bitsK t k ≤ 16 := by decide
  exact h t ht k (by omega)
theorem ctxK_lt (q : Int → Int → Nat) (hq : ∀ x y, q x y ≤ 1) (t : Nat) (x y : Int) : ∀ k, ctxK q t x y k < 2 ^ bitsK t k
  | 0 => by simp [ctxK, bitsK]
  | k + 1 => gathN_lt _ (fun _ => hq _ _) _ _ (ctxK_lt q hq t x y k) _
theorem ctx_lt (q : Int → Int → Nat) (hq : ∀ x y, q x y ≤ 1) (t : Nat) (x y : Int) : ctx q t x y < sizeT t := ctxK_lt q hq t x y 3
theorem ctxK_zero (q : Int → Int → Nat) (t : Nat) (x y : Int) (ht : t < 4) : ∀ k, k ≤ 3 → (∀ i : Nat, i < 3 → ∀ d : Int, -4 ≤ d → d ≤ 3 → q (x + d) (y - 2 + i) = 0) → ctxK q t x y k = 0
  | 0, _, _ => rfl
  | k + 1, hk, h => by
    rw [ctxK, ctxK_zero q t x y ht k (by omega) h]
    refine gathN_zero _ fun j hj => ?_
    have hs := span_facts t k ht (by omega)
    have := h k (by omega) (fstS t k + j) (by omega) (by omega)
    rw [← this]; congr 1; omega
theorem ctx_zero (q : Int → Int → Nat) (t : Nat) (x y : Int) (ht : t < 4) (h : ∀ i : Nat, i < 3 → ∀ d : Int, -4 ≤ d → d ≤ 3 → q (x + d) (y - 2 + i) = 0) : ctx q t x y = 0 := ctxK_zero q t x y ht 3 (by omega) h
/-- Far away all is white. -/
theorem ctx_far (W H : Nat) (P : Nat → Nat → Bool) (t : Nat) (x y : Int) (ht : t < 4) (h : x < -3 ∨ W + 3 < x ∨ y < 0 ∨ H + 1 < y) : ctx (pixI W H P) t x y = 0 := by
  refine ctx_zero _ t x y ht fun i hi d h1 h2 => ?_
  unfold pixI
  rw [if_neg]
  omega
theorem ctxK_congr (q r : Int → Int → Nat) (t : Nat) (x y : Int) (ht : t < 4) : ∀ k, k ≤ 3 → (∀ a b : Int, (b < y ∨ (b = y ∧ a < x)) → q a b = r a b) → ctxK q t x y k = ctxK r t x y k
  | 0, _, _ => rfl
  | k + 1, hk, h => by
    rw [ctxK, ctxK, ctxK_congr q r t x y ht k (by omega) h]
    refine gathN_congr _ _ fun j hj => h _ _ ?_
    have hs := span_facts t k ht (by omega)
    have hl := last_own t
    rcases Nat.lt_or_ge k 2 with h2 | h2
    · left; omega
    · obtain rfl : k = 2 := by omega
      right; omega
/-- A context hangs on pixels ahead of its own alone. -/
theorem ctx_congr (q r : Int → Int → Nat) (t : Nat) (x y : Int) (ht : t < 4) (h : ∀ a b : Int, (b < y ∨ (b = y ∧ a < x)) → q a b = r a b) : ctx q t x y = ctx r t x y := ctxK_congr q r t x y ht 3 (by omega) h
theorem ctxK_moved (q r : Int → Int → Nat) (t : Nat) (x y dx dy : Int) (h : ∀ a b : Int, r (a + dx) (b + dy) = q a b) : ∀ k, ctxK r t (x + dx) (y + dy) k = ctxK q t x y k
  | 0 => rfl
  | k + 1 => by
    rw [ctxK, ctxK, ctxK_moved q r t x y dx dy h k]
    refine gathN_congr _ _ fun j hj => ?_
    rw [← h]
    congr 1 <;> omega
/-- Contexts go with the picture. -/
theorem ctx_moved (q r : Int → Int → Nat) (t : Nat) (x y dx dy : Int) (h : ∀ a b : Int, r (a + dx) (b + dy) = q a b) : ctx r t (x + dx) (y + dy) = ctx q t x y := ctxK_moved q r t x y dx dy h 3

/-- A row's pixel, by its words. -/
def rowpix (l : List Nat) (x : Int) : Nat := if 0 ≤ x ∧ x < l.length * 64 then (l[x.toNat / 64]?.getD 0) / 2 ^ (63 - x.toNat % 64) % 2 else 0
theorem rowpix_le (l : List Nat) (x : Int) : rowpix l x ≤ 1 := by unfold rowpix; split <;> omega
def rowL (W H : Nat) (P : Nat → Nat → Bool) (y : Int) : List Nat := if 0 ≤ y ∧ y < H then (List.range (stride W)).map fun j => wd W P y.toNat j else []
theorem rowpix_pixI (W H : Nat) (P : Nat → Nat → Bool) (x y : Int) : rowpix (rowL W H P y) x = pixI W H P x y := by
  unfold rowpix rowL pixI
  by_cases hy : 0 ≤ y ∧ y < H
  · rw [if_pos hy]
    simp only [List.length_map, List.length_range]
    by_cases hx : 0 ≤ x ∧ x < stride W * 64
    · rw [if_pos hx]
      have hj : x.toNat / 64 < stride W := by omega
      rw [List.getElem?_map, List.getElem?_range hj]
      simp only [Option.map_some, Option.getD_some]
      rw [← Nat.toNat_testBit]
      unfold wd
      rw [bit_wordOf _ _ (by omega)]
      have e : 64 * (x.toNat / 64) + x.toNat % 64 = x.toNat := by omega
      rw [e]
      by_cases hw : x < W
      · rw [if_pos ⟨hx.1, hw, hy.1, hy.2⟩, decide_eq_true (by omega), Bool.true_and]
      · rw [if_neg (by omega), decide_eq_false (by omega), Bool.false_and]; rfl
    · rw [if_neg hx, if_neg]
      unfold stride at hx
      omega
  · rw [if_neg hy, if_neg (c := 0 ≤ x ∧ x < W ∧ 0 ≤ y ∧ y < H) (by omega), if_neg]
    simp
theorem rowL_length (W H : Nat) (P : Nat → Nat → Bool) (y : Int) : (rowL W H P y).length ≤ stride W := by
  unfold rowL; split <;> simp

end Go.Proofs.Ytdgbojlcnkpepaa
