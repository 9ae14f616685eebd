/- Plain mathematics of bits, bytes and numbers, without the program: lists of bits, the bytes that they fill, numbers written with the highest bit first. -/
namespace Go.Proofs.YtamonbkhpbdojaaDoor
set_option maxRecDepth 100000

def bit (bs : List Bool) (k : Nat) : Bool := bs[k]?.getD false
def byteF (f : Nat → Bool) : Nat := (f 0).toNat * 128 + (f 1).toNat * 64 + (f 2).toNat * 32 + (f 3).toNat * 16 + (f 4).toNat * 8 + (f 5).toNat * 4 + (f 6).toNat * 2 + (f 7).toNat
def byteAt (bs : List Bool) (j : Nat) : Nat := byteF fun k => bit bs (8 * j + k)
def pack (bs : List Bool) : List Nat := (List.range ((bs.length + 7) / 8)).map (byteAt bs)
def bitsOf (n width : Nat) : List Bool := (List.range width).map fun i => n.testBit (width - 1 - i)
def num (l : List Bool) : Nat := l.foldl (fun a b => 2 * a + b.toNat) 0
def unpack (bytes : List Nat) : List Bool := (List.range (8 * bytes.length)).map fun i => (bytes[i / 8]?.getD 0).testBit (7 - i % 8)

theorem byteF_lt (f : Nat → Bool) : byteF f < 256 := by
  unfold byteF
  have h := fun k => Bool.toNat_le (f k)
  have h0 := h 0; have h1 := h 1; have h2 := h 2; have h3 := h 3; have h4 := h 4; have h5 := h 5; have h6 := h 6; have h7 := h 7
  omega

theorem byteF_tab : ∀ a b c d e f g h : Bool, ∀ i : Fin 8, (a.toNat * 128 + b.toNat * 64 + c.toNat * 32 + d.toNat * 16 + e.toNat * 8 + f.toNat * 4 + g.toNat * 2 + h.toNat).testBit i.val = [h, g, f, e, d, c, b, a][i.val]?.getD false := by
  decide +kernel

theorem byteF_testBit (f : Nat → Bool) (i : Nat) : (byteF f).testBit i = (decide (i < 8) && f (7 - i)) := by
  by_cases h : i < 8
  · have := byteF_tab (f 0) (f 1) (f 2) (f 3) (f 4) (f 5) (f 6) (f 7) ⟨i, h⟩
    unfold byteF
    rw [this]
    have hi : i = 0 ∨ i = 1 ∨ i = 2 ∨ i = 3 ∨ i = 4 ∨ i = 5 ∨ i = 6 ∨ i = 7 := by omega
    rcases hi with rfl | rfl | rfl | rfl | rfl | rfl | rfl | rfl <;> simp
  · rw [Nat.testBit_lt_two_pow]
    · simp [h]
    · have := byteF_lt f
      have : 2 ^ 8 ≤ 2 ^ i := Nat.pow_le_pow_right (by omega) (by omega)
      omega

theorem byteAt_lt (bs : List Bool) (j : Nat) : byteAt bs j < 256 := byteF_lt _

theorem length_bitsOf (n width : Nat) : (bitsOf n width).length = width := by simp [bitsOf]

theorem length_pack (bs : List Bool) : (pack bs).length = (bs.length + 7) / 8 := by simp [pack]

theorem pack_get (bs : List Bool) (j : Nat) (h : j < (bs.length + 7) / 8) : (pack bs)[j]? = some (byteAt bs j) := by
  simp [pack, h]

theorem pack_lt (bs : List Bool) : ∀ x ∈ pack bs, x < 256 := by
  intro x hx
  simp only [pack, List.mem_map] at hx
  obtain ⟨j, _, rfl⟩ := hx
  exact byteAt_lt _ _

theorem bit_append (a b : List Bool) (k : Nat) : bit (a ++ b) k = if k < a.length then bit a k else bit b (k - a.length) := by
  unfold bit
  rw [List.getElem?_append]
  split <;> rfl

theorem bit_past (a : List Bool) (k : Nat) (h : a.length ≤ k) : bit a k = false := by
  unfold bit
  rw [List.getElem?_eq_none h]
  rfl

theorem bit_bitsOf (n width i : Nat) : bit (bitsOf n width) i = (decide (i < width) && n.testBit (width - 1 - i)) := by
  unfold bit bitsOf
  by_cases h : i < width <;> simp [h]

theorem ext_bit {a b : List Bool} (h : a.length = b.length) (hb : ∀ k, k < a.length → bit a k = bit b k) : a = b := by
  apply List.ext_getElem? 
  intro k
  by_cases hk : k < a.length
  · have := hb k hk
    unfold bit at this
    rw [List.getElem?_eq_getElem hk, List.getElem?_eq_getElem (by omega)] at this ⊢
    simpa using this
  · rw [List.getElem?_eq_none (by omega), List.getElem?_eq_none (by omega)]

theorem bitsOf_add (n a b : Nat) : bitsOf n (a + b) = bitsOf (n / 2 ^ b) a ++ bitsOf n b := by
  apply ext_bit
  · simp [length_bitsOf]
  · intro k hk
    rw [length_bitsOf] at hk
    rw [bit_append, bit_bitsOf, bit_bitsOf, bit_bitsOf, length_bitsOf]
    by_cases h : k < a
    · simp only [h, if_true, hk, decide_true, Bool.true_and, Nat.testBit_div_two_pow]
      congr 1; omega
    · simp only [h, if_false, hk, decide_true, Bool.true_and]
      have h2 : k - a < b := by omega
      simp only [h2, decide_true, Bool.true_and]
      congr 1; omega

theorem bitsOf_zero (n : Nat) : bitsOf n 0 = [] := rfl

/-- A byte that is filled further: the bits behind 'used' come out of a number's lowest bits. -/
theorem byte_step (bs : List Bool) (m step : Nat) (h : step + bs.length % 8 ≤ 8) :
    byteAt (bs ++ bitsOf m step) (bs.length / 8) = byteAt bs (bs.length / 8) ||| (m % 256 * 2 ^ (8 - step) % 256 / 2 ^ (bs.length % 8)) := by
  apply Nat.eq_of_testBit_eq
  intro i
  rw [Nat.testBit_or, byteAt, byteAt, byteF_testBit, byteF_testBit, Nat.testBit_div_two_pow]
  have e256 : (256 : Nat) = 2 ^ 8 := rfl
  rw [e256, Nat.testBit_mod_two_pow, Nat.testBit_mul_two_pow, Nat.testBit_mod_two_pow]
  rw [bit_append, bit_bitsOf]
  by_cases hi : i < 8
  · simp only [hi, decide_true, Bool.true_and]
    by_cases hk : 8 * (bs.length / 8) + (7 - i) < bs.length
    · have h1 : ¬ (i + bs.length % 8 < 8) := by omega
      simp [hk, h1]
    · rw [if_neg hk, bit_past bs _ (by omega)]
      have h1 : i + bs.length % 8 < 8 := by omega
      simp only [h1, decide_true, Bool.true_and, Bool.false_or]
      by_cases h2 : 8 - step ≤ i + bs.length % 8
      · have h3 : 8 * (bs.length / 8) + (7 - i) - bs.length < step := by omega
        have h4 : i + bs.length % 8 - (8 - step) < 8 := by omega
        simp only [h2, h3, h4, decide_true, Bool.true_and]
        congr 1; omega
      · have h3 : ¬ (8 * (bs.length / 8) + (7 - i) - bs.length < step) := by omega
        simp [h2, h3]
  · have h1 : ¬ (i + bs.length % 8 < 8) := by omega
    simp [hi, h1]

/-- Bytes ahead of the one that is filled stay. -/
theorem byte_keep (bs new : List Bool) (j : Nat) (h : 8 * j + 8 ≤ bs.length) : byteAt (bs ++ new) j = byteAt bs j := by
  unfold byteAt
  simp only [byteF]
  have hb : ∀ k, k < 8 → bit (bs ++ new) (8 * j + k) = bit bs (8 * j + k) := fun k hk => by rw [bit_append, if_pos (by omega)]
  rw [hb 0 (by omega), hb 1 (by omega), hb 2 (by omega), hb 3 (by omega), hb 4 (by omega), hb 5 (by omega), hb 6 (by omega), hb 7 (by omega)]

theorem byte_past (bs : List Bool) (j : Nat) (h : bs.length ≤ 8 * j) : byteAt bs j = 0 := by
  unfold byteAt
  have hb : ∀ k, bit bs (8 * j + k) = false := fun k => bit_past _ _ (by omega)
  simp only [byteF, hb]
  rfl

/-- What a round of 'lay' does to the bytes, where the last byte is not full. -/
theorem pack_fill (bs : List Bool) (m step : Nat) (h : step + bs.length % 8 ≤ 8) (hs : 0 < step) (hu : bs.length % 8 ≠ 0) :
    pack (bs ++ bitsOf m step) = (pack bs).set ((bs.length + 7) / 8 - 1) (byteAt bs (bs.length / 8) ||| (m % 256 * 2 ^ (8 - step) % 256 / 2 ^ (bs.length % 8))) := by
  rw [← byte_step bs m step h]
  apply List.ext_getElem?
  intro j
  rw [List.getElem?_set]
  have hl : (bs ++ bitsOf m step).length = bs.length + step := by simp [length_bitsOf]
  have hq : (bs.length + step + 7) / 8 = (bs.length + 7) / 8 := by omega
  by_cases hj : j < (bs.length + 7) / 8
  · rw [pack_get _ _ (by rw [hl]; omega)]
    split
    · rename_i e
      rw [if_pos (by rw [length_pack]; omega)]
      rw [show bs.length / 8 = j from by omega]
    · rw [pack_get _ _ hj, byte_keep _ _ _ (by omega)]
  · rw [List.getElem?_eq_none (by rw [length_pack, hl]; omega)]
    split
    · rw [if_neg (by rw [length_pack]; omega)]
    · rw [List.getElem?_eq_none (by rw [length_pack]; omega)]

/-- .. and where a new byte is begun. -/
theorem pack_new (bs : List Bool) (m step : Nat) (h : step ≤ 8) (hs : 0 < step) (hu : bs.length % 8 = 0) :
    pack (bs ++ bitsOf m step) = (pack bs ++ [0]).set ((bs.length + 7) / 8 + 1 - 1) (0 ||| (m % 256 * 2 ^ (8 - step) % 256 / 2 ^ (0 : Nat))) := by
  have hb := byte_step bs m step (by omega)
  rw [byte_past bs _ (by omega), hu] at hb
  rw [← hb]
  apply List.ext_getElem?
  intro j
  rw [List.getElem?_set]
  have hl : (bs ++ bitsOf m step).length = bs.length + step := by simp [length_bitsOf]
  have hq : (bs.length + step + 7) / 8 = (bs.length + 7) / 8 + 1 := by omega
  by_cases hj : j < (bs.length + 7) / 8
  · rw [pack_get _ _ (by rw [hl]; omega), if_neg (by omega), List.getElem?_append_left (by rw [length_pack]; omega), pack_get _ _ hj, byte_keep _ _ _ (by omega)]
  · by_cases hj2 : j = (bs.length + 7) / 8
    · rw [pack_get _ _ (by rw [hl]; omega), if_pos (by omega), if_pos (by simp [length_pack]), show bs.length / 8 = j from by omega]
    · rw [List.getElem?_eq_none (by rw [length_pack, hl]; omega), if_neg (by omega), List.getElem?_eq_none (by simp [length_pack]; omega)]

theorem num_foldl (l : List Bool) : ∀ a, l.foldl (fun a b => 2 * a + b.toNat) a = a * 2 ^ l.length + num l := by
  unfold num
  induction l with
  | nil => intro a; simp
  | cons b l ih =>
    intro a
    simp only [List.foldl_cons, List.length_cons]
    rw [ih, ih (2 * 0 + b.toNat), Nat.pow_succ]
    generalize List.foldl (fun a b => 2 * a + b.toNat) 0 l = r
    generalize 2 ^ l.length = p
    rw [Nat.mul_zero, Nat.zero_add, Nat.add_mul, Nat.mul_comm p 2, ← Nat.mul_assoc, Nat.mul_comm a 2, Nat.add_assoc]

theorem num_append (a b : List Bool) : num (a ++ b) = num a * 2 ^ b.length + num b := by
  rw [num, List.foldl_append]
  exact num_foldl b _

theorem num_nil : num [] = 0 := rfl

theorem num_lt (l : List Bool) : num l < 2 ^ l.length := by
  induction l with
  | nil => simp [num]
  | cons b l ih =>
    rw [show b :: l = [b] ++ l from rfl, num_append]
    have : num [b] ≤ 1 := by cases b <;> simp [num]
    have h2 : num [b] * 2 ^ l.length ≤ 1 * 2 ^ l.length := Nat.mul_le_mul_right _ this
    simp only [List.singleton_append, List.length_cons, Nat.pow_succ]
    omega

theorem num_bitsOf (n : Nat) : ∀ width, num (bitsOf n width) = n % 2 ^ width := by
  intro width
  induction width with
  | zero => simp [bitsOf, num, Nat.mod_one]
  | succ k ih =>
    rw [show k + 1 = 1 + k from by omega, bitsOf_add, num_append, ih, length_bitsOf]
    have : num (bitsOf (n / 2 ^ k) 1) = n / 2 ^ k % 2 := by
      simp [bitsOf, num, Nat.testBit_zero]
      rcases Nat.mod_two_eq_zero_or_one (n / 2 ^ k) with h | h <;> simp [h]
    rw [this, show (1 + k) = k + 1 from by omega, Nat.pow_succ, Nat.mod_mul]
    rw [Nat.mul_comm, Nat.add_comm]

theorem num_testBit (l : List Bool) (i : Nat) : (num l).testBit i = (decide (i < l.length) && bit l (l.length - 1 - i)) := by
  by_cases h : i < l.length
  · simp only [h, decide_true, Bool.true_and]
    induction l generalizing i with
    | nil => simp at h
    | cons b l ih =>
      rw [show b :: l = [b] ++ l from rfl, num_append, Nat.mul_comm, Nat.testBit_two_pow_mul_add _ (num_lt l)]
      by_cases hi : i < l.length
      · simp only [hi, if_true]
        rw [ih i hi, bit_append]
        rw [if_neg (by simp; omega)]
        congr 1; simp; omega
      · have e : i = l.length := by simp at h; omega
        subst e
        simp only [Nat.lt_irrefl, if_false, Nat.sub_self]
        rw [bit_append, if_pos (by simp)]
        simp [bit]
        cases b <;> simp [num]
  · rw [Nat.testBit_lt_two_pow (Nat.lt_of_lt_of_le (num_lt l) (Nat.pow_le_pow_right (by omega) (by omega)))]
    simp [h]

theorem bitsOf_num (l : List Bool) : bitsOf (num l) l.length = l := by
  apply ext_bit (by rw [length_bitsOf])
  intro k hk
  rw [length_bitsOf] at hk
  rw [bit_bitsOf, num_testBit]
  have h1 : l.length - 1 - k < l.length := by omega
  simp only [hk, h1, decide_true, Bool.true_and]
  congr 1; omega

theorem length_unpack (bytes : List Nat) : (unpack bytes).length = 8 * bytes.length := by simp [unpack]

theorem bit_unpack (bytes : List Nat) (i : Nat) : bit (unpack bytes) i = (decide (i < 8 * bytes.length) && (bytes[i / 8]?.getD 0).testBit (7 - i % 8)) := by
  unfold bit unpack
  by_cases h : i < 8 * bytes.length <;> simp [h]

theorem bit_drop (l : List Bool) (a k : Nat) : bit (l.drop a) k = bit l (a + k) := by
  simp [bit]

theorem bit_take (l : List Bool) (a k : Nat) : bit (l.take a) k = (decide (k < a) && bit l k) := by
  unfold bit
  rw [List.getElem?_take]
  by_cases h : k < a <;> simp [h]

/-- What a round of 'gather' gathers. -/
theorem num_next (bytes : List Nat) (pos step : Nat) (h : step + pos % 8 ≤ 8) (hp : pos + step ≤ 8 * bytes.length) (hs : 0 < step) :
    num (((unpack bytes).drop pos).take step) = (bytes[pos / 8]?.getD 0) * 2 ^ (pos % 8) % 256 / 2 ^ (8 - step) := by
  apply Nat.eq_of_testBit_eq
  intro i
  have hl : (((unpack bytes).drop pos).take step).length = step := by
    rw [List.length_take, List.length_drop, length_unpack]; omega
  have e256 : (256 : Nat) = 2 ^ 8 := rfl
  rw [num_testBit, hl, Nat.testBit_div_two_pow, e256, Nat.testBit_mod_two_pow, Nat.testBit_mul_two_pow]
  by_cases hi : i < step
  · have h1 : i + (8 - step) < 8 := by omega
    have h2 : pos % 8 ≤ i + (8 - step) := by omega
    have h3 : step - 1 - i < step := by omega
    have h4 : pos + (step - 1 - i) < 8 * bytes.length := by omega
    simp only [hi, h1, h2, decide_true, Bool.true_and, bit_take, h3, bit_drop, bit_unpack, h4]
    have e1 : (pos + (step - 1 - i)) / 8 = pos / 8 := by omega
    rw [e1]
    congr 1; omega
  · have h1 : ¬ (i + (8 - step) < 8) := by omega
    simp [hi, h1]

theorem unpack_pack (bs : List Bool) : unpack (pack bs) = bs ++ List.replicate ((8 - bs.length % 8) % 8) false := by
  apply ext_bit
  · rw [length_unpack, length_pack]; simp; omega
  · intro k hk
    rw [length_unpack, length_pack] at hk
    rw [bit_unpack, length_pack, pack_get _ _ (by omega)]
    simp only [hk, decide_true, Bool.true_and, Option.getD_some]
    rw [byteAt, byteF_testBit]
    have h1 : 7 - k % 8 < 8 := by omega
    simp only [h1, decide_true, Bool.true_and]
    rw [show 8 * (k / 8) + (7 - (7 - k % 8)) = k from by omega, bit_append]
    split
    · rfl
    · rw [bit_past _ _ (by omega)]
      unfold bit
      simp [List.getElem?_replicate]
      split <;> rfl

end Go.Proofs.YtamonbkhpbdojaaDoor
