/- Files of the pbm kinds as lists of bytes: what is written, what is read. No model in this text. -/
import Derived.Lib.ItoaNum
namespace Go.Proofs.YtpfajkkjnobdlaaDoor
set_option maxRecDepth 100000

def white (c : Nat) : Bool := (decide (9 ≤ c) && decide (c ≤ 13)) || decide (c = 32)
def digit (c : Nat) : Bool := decide (48 ≤ c) && decide (c ≤ 57)

/-- What is left behind white bytes and remarks; the flag: within a remark. -/
def gapS : Bool → List Nat → List Nat
  | _, [] => []
  | true, c :: l => if c = 10 then gapS false l else gapS true l
  | false, c :: l => if c = 35 then gapS true l else if white c then gapS false l else c :: l

def numS : Nat → List Nat → Nat × List Nat
  | n, [] => (n, [])
  | n, c :: l => if digit c then numS (min (10 * n + (c - 48)) 2147483648) l else (n, c :: l)

def first (l : List Nat) : Bool := match l with | [] => false | c :: _ => digit c

/-- A gap, a number: the number, what is left. -/
def numberS (l : List Nat) : Option (Nat × List Nat) :=
  if (gapS false l).length = l.length then none else if first (gapS false l) then some (numS 0 (gapS false l)) else none

/-- k pixels of a text. -/
def pixS : Nat → List Bool → List Nat → Except Nat (List Bool × List Nat)
  | 0, a, l => .ok (a, l)
  | k + 1, a, l => match gapS false l with
    | [] => .error 32
    | c :: r => if c = 48 then pixS k (a ++ [false]) r else if c = 49 then pixS k (a ++ [true]) r else .error 30

def wideS (W : Nat) : Nat := (W + 7) / 8
def plcT (W : Nat) (a : List Bool) : Nat → Nat → Bool := fun x y => a.getD (y * W + x) false
def plcB (W : Nat) (l : List Nat) : Nat → Nat → Bool := fun x y => (l.getD (y * wideS W + x / 8) 0).testBit (7 - x % 8)

abbrev Bmp := Nat × Nat × (Nat → Nat → Bool)
def digitsS (W H : Nat) (l : List Nat) : Except Nat Bmp :=
  match pixS (W * H) [] l with
  | .error e => .error e
  | .ok (a, r) => if gapS false r = [] then .ok (W, H, plcT W a) else .error 33
def rowsS (W H : Nat) (l : List Nat) : Except Nat Bmp :=
  match l with
  | [] => .error 30
  | c :: r => if white c then (if r.length < wideS W * H then .error 32 else if wideS W * H < r.length then .error 33 else .ok (W, H, plcB W r)) else .error 30
def sizeS (W H : Nat) : Bool := decide (1 ≤ W) && decide (1 ≤ H) && decide (W * H ≤ 1048576)
def bodyS (txt : Bool) (l : List Nat) : Except Nat Bmp :=
  match numberS l with
  | none => .error 30
  | some (W, r) => match numberS r with
    | none => .error 30
    | some (H, s) => if sizeS W H then (if txt then digitsS W H s else rowsS W H s) else .error 31
def readS (l : List Nat) : Except Nat Bmp :=
  match l with
  | 80 :: 49 :: r => bodyS true r
  | 80 :: 52 :: r => bodyS false r
  | _ => .error 30

/-! ### What is written -/
def decN (n : Nat) : List Nat := (Go.Lib.decDigits n).map UInt8.toNat
theorem decN_small {n : Nat} (h : n < 10) : decN n = [48 + n] := by
  unfold decN
  rw [Go.Lib.decDigits, dif_pos h]
  simp; omega
theorem decN_big {n : Nat} (h : ¬ n < 10) : decN n = decN (n / 10) ++ [48 + n % 10] := by
  unfold decN
  rw [Go.Lib.decDigits, dif_neg h]
  simp; omega

def dgt (b : Bool) : Nat := 48 + b.toNat
def cellT (W : Nat) (P : Nat → Nat → Bool) (y x : Nat) : List Nat := dgt (P x y) :: if x + 1 = W ∨ x % 64 = 63 then [10] else []
def rowT (W : Nat) (P : Nat → Nat → Bool) (y : Nat) : List Nat := (List.range W).flatMap (cellT W P y)
def txtT (W H : Nat) (P : Nat → Nat → Bool) : List Nat := (List.range H).flatMap (rowT W P)
def packS (f : Nat → Bool) : Nat → Nat
  | 0 => 0
  | n + 1 => 2 * packS f n + (f n).toNat
def byteS (W : Nat) (P : Nat → Nat → Bool) (y k : Nat) : Nat := packS (fun i => decide (8 * k + i < W) && P (8 * k + i) y) 8
def rowB (W : Nat) (P : Nat → Nat → Bool) (y : Nat) : List Nat := (List.range (wideS W)).map (byteS W P y)
def txtB (W H : Nat) (P : Nat → Nat → Bool) : List Nat := (List.range H).flatMap (rowB W P)
def headS (c W H : Nat) : List Nat := [80, c, 10] ++ decN W ++ [32] ++ decN H ++ [10]
def fileS (txt : Bool) (W H : Nat) (P : Nat → Nat → Bool) : List Nat := if txt then headS 49 W H ++ txtT W H P else headS 52 W H ++ txtB W H P

/-! ### Numbers -/
theorem numS_dec (n : Nat) (hn : n ≤ 2147483648) : ∀ t, numS 0 (decN n ++ t) = numS n t := by
  induction n using Nat.strongRecOn with
  | _ n ih =>
    intro t
    by_cases h : n < 10
    · rw [decN_small h]
      simp only [List.singleton_append, numS]
      rw [if_pos (by unfold digit; simp; omega), show min (10 * 0 + (48 + n - 48)) 2147483648 = n from by omega]
    · rw [decN_big h, List.append_assoc, ih (n / 10) (by omega) (by omega)]
      simp only [List.singleton_append, numS]
      rw [if_pos (by unfold digit; simp; omega), show min (10 * (n / 10) + (48 + n % 10 - 48)) 2147483648 = n from by omega]
theorem decN_ne (n : Nat) : ∃ c r, decN n = c :: r ∧ digit c = true := by
  induction n using Nat.strongRecOn with
  | _ n ih =>
    by_cases h : n < 10
    · exact ⟨48 + n, [], decN_small h, by unfold digit; simp; omega⟩
    · obtain ⟨c, r, e, hc⟩ := ih (n / 10) (by omega)
      exact ⟨c, r ++ [48 + n % 10], by rw [decN_big h, e]; rfl, hc⟩
theorem digit_stays {c : Nat} (h : digit c = true) (r : List Nat) : gapS false (c :: r) = c :: r := by
  unfold digit at h
  simp at h
  rw [gapS, if_neg (by omega), if_neg (by unfold white; simp; omega)]
theorem gapS_le : ∀ b l, (gapS b l).length ≤ l.length
  | true, [] => by simp [gapS]
  | false, [] => by simp [gapS]
  | true, c :: l => by
    simp only [gapS]
    split
    · have := gapS_le false l; simp; omega
    · have := gapS_le true l; simp; omega
  | false, c :: l => by
    simp only [gapS]
    split
    · have := gapS_le true l; simp; omega
    · split
      · have := gapS_le false l; simp; omega
      · simp
theorem gapS_drop : ∀ b l, gapS b l = l.drop (l.length - (gapS b l).length)
  | true, [] => by simp [gapS]
  | false, [] => by simp [gapS]
  | true, c :: l => by
    simp only [gapS]
    split
    · have h := gapS_le false l
      rw [show (c :: l).length - (gapS false l).length = (l.length - (gapS false l).length) + 1 from by simp; omega, List.drop_succ_cons]
      exact gapS_drop false l
    · have h := gapS_le true l
      rw [show (c :: l).length - (gapS true l).length = (l.length - (gapS true l).length) + 1 from by simp; omega, List.drop_succ_cons]
      exact gapS_drop true l
  | false, c :: l => by
    simp only [gapS]
    split
    · have h := gapS_le true l
      rw [show (c :: l).length - (gapS true l).length = (l.length - (gapS true l).length) + 1 from by simp; omega, List.drop_succ_cons]
      exact gapS_drop true l
    · split
      · have h := gapS_le false l
        rw [show (c :: l).length - (gapS false l).length = (l.length - (gapS false l).length) + 1 from by simp; omega, List.drop_succ_cons]
        exact gapS_drop false l
      · simp
/-- A gap of at least one byte, then a number that is written, then something that is no digit. -/
theorem numberS_dec (g : List Nat) (n : Nat) (hn : n ≤ 2147483648) (c : Nat) (t : List Nat) (hc : digit c = false) (hg : ∀ r, gapS false (g ++ r) = gapS false r) (hne : g ≠ []) :
    numberS (g ++ decN n ++ c :: t) = some (n, c :: t) := by
  obtain ⟨d, r, e, hd⟩ := decN_ne n
  have h1 : gapS false (g ++ decN n ++ c :: t) = decN n ++ c :: t := by
    rw [List.append_assoc, hg, e]
    exact digit_stays hd _
  unfold numberS
  rw [h1, if_neg, if_pos]
  · rw [numS_dec n hn, numS, hc]
    rfl
  · rw [e]; exact hd
  · have := List.length_pos_iff.2 hne
    simp; omega
/-- Behind a number there is no digit. -/
theorem numS_end : ∀ n l, first (numS n l).2 = false
  | n, [] => rfl
  | n, c :: l => by
    simp only [numS]
    by_cases h : digit c
    · rw [if_pos h]; exact numS_end _ l
    · rw [if_neg h]; simpa [first] using h
theorem numS_lt : ∀ n l, n ≤ 2147483648 → (numS n l).1 ≤ 2147483648
  | n, [], h => h
  | n, c :: l, h => by
    simp only [numS]
    by_cases hd : digit c
    · rw [if_pos hd]; exact numS_lt _ l (by omega)
    · rw [if_neg hd]; exact h
theorem numberS_end {l r : List Nat} {n : Nat} (h : numberS l = some (n, r)) : first r = false := by
  unfold numberS at h
  split at h
  · cases h
  · split at h
    · simp at h
      have := numS_end 0 (gapS false l)
      rw [h] at this
      exact this
    · cases h

/-! ### Pixels of a text: what is written is read -/
/-- Pixels, and what is left behind the gap that follows. -/
def finS (k : Nat) (a : List Bool) (l : List Nat) : Except Nat (List Bool × List Nat) :=
  match pixS k a l with
  | .error e => .error e
  | .ok (b, r) => .ok (b, gapS false r)
/-- Bytes that a gap passes whole. -/
def Tr (g : List Nat) : Prop := ∀ r, gapS false (g ++ r) = gapS false r
theorem finS_tr {g : List Nat} (h : Tr g) (k : Nat) (a : List Bool) (t : List Nat) : finS k a (g ++ t) = finS k a t := by
  cases k with
  | zero => simp [finS, pixS, h t]
  | succ k => simp [finS, pixS, h t]
theorem tr_nil : Tr [] := fun _ => rfl
theorem tr_lf : Tr [10] := fun _ => rfl
theorem tr_bl : Tr [32] := fun _ => rfl
theorem finS_dgt (k : Nat) (a : List Bool) (b : Bool) (t : List Nat) : finS (k + 1) a (dgt b :: t) = finS k (a ++ [b]) t := by
  have h1 : gapS false (dgt b :: t) = dgt b :: t := digit_stays (by cases b <;> rfl) t
  unfold finS
  rw [pixS, h1]
  cases b <;> simp [dgt]
theorem finS_cell (k : Nat) (a : List Bool) (W : Nat) (P : Nat → Nat → Bool) (y x : Nat) (t : List Nat) : finS (k + 1) a (cellT W P y x ++ t) = finS k (a ++ [P x y]) t := by
  unfold cellT
  rw [List.cons_append, finS_dgt]
  split
  · exact finS_tr tr_lf _ _ _
  · rfl
def bitsRow (n : Nat) (P : Nat → Nat → Bool) (y : Nat) : List Bool := (List.range n).map fun x => P x y
def bitsOf (W n : Nat) (P : Nat → Nat → Bool) : List Bool := (List.range n).flatMap (bitsRow W P)
theorem finS_row (k n : Nat) (a : List Bool) (W : Nat) (P : Nat → Nat → Bool) (y : Nat) (t : List Nat) :
    finS (k + n) a ((List.range n).flatMap (cellT W P y) ++ t) = finS k (a ++ bitsRow n P y) t := by
  induction n generalizing k t with
  | zero => simp [bitsRow]
  | succ n ih =>
    rw [List.range_succ, List.flatMap_append, List.append_assoc, show k + (n + 1) = (k + 1) + n from by omega, ih (k + 1)]
    simp only [List.flatMap_cons, List.flatMap_nil, List.append_nil]
    rw [finS_cell]
    simp [bitsRow, List.range_succ]
theorem finS_txt (k n : Nat) (a : List Bool) (W : Nat) (P : Nat → Nat → Bool) (t : List Nat) :
    finS (k + n * W) a ((List.range n).flatMap (rowT W P) ++ t) = finS k (a ++ bitsOf W n P) t := by
  induction n generalizing k t with
  | zero => simp [bitsOf]
  | succ n ih =>
    rw [List.range_succ, List.flatMap_append, List.append_assoc, show k + (n + 1) * W = (k + W) + n * W from by rw [Nat.add_mul]; omega, ih (k + W)]
    simp only [List.flatMap_cons, List.flatMap_nil, List.append_nil]
    unfold rowT
    rw [finS_row]
    simp [bitsOf, List.range_succ]
theorem bitsOf_length (W n : Nat) (P : Nat → Nat → Bool) : (bitsOf W n P).length = n * W := by
  induction n with
  | zero => simp [bitsOf]
  | succ n ih =>
    have : bitsOf W (n + 1) P = bitsOf W n P ++ bitsRow W P n := by simp [bitsOf, List.range_succ]
    rw [this, List.length_append, ih, Nat.add_mul]
    simp [bitsRow]
theorem bitsOf_get (W n : Nat) (P : Nat → Nat → Bool) {x y : Nat} (hx : x < W) (hy : y < n) : (bitsOf W n P).getD (y * W + x) false = P x y := by
  induction n with
  | zero => omega
  | succ n ih =>
    have he : bitsOf W (n + 1) P = bitsOf W n P ++ bitsRow W P n := by simp [bitsOf, List.range_succ]
    rw [he, List.getD_eq_getElem?_getD]
    by_cases h : y < n
    · have hl : y * W + x < n * W := by
        have : (y + 1) * W ≤ n * W := Nat.mul_le_mul_right _ h
        rw [Nat.add_mul] at this; omega
      rw [List.getElem?_append_left (by rw [bitsOf_length]; exact hl), ← List.getD_eq_getElem?_getD, ih h]
    · obtain rfl : y = n := by omega
      rw [List.getElem?_append_right (by rw [bitsOf_length]; omega), bitsOf_length, show y * W + x - y * W = x from by omega]
      simp [bitsRow, hx]
theorem digitsS_fin (W H : Nat) (l : List Nat) : digitsS W H l = match finS (W * H) [] l with | .error e => .error e | .ok (a, r) => if r = [] then .ok (W, H, plcT W a) else .error 33 := by
  unfold digitsS finS
  split
  · simp_all
  · simp_all
theorem finS_all (W H : Nat) (P : Nat → Nat → Bool) (t : List Nat) : finS (W * H) [] (10 :: (txtT W H P ++ t)) = .ok (bitsOf W H P, gapS false t) := by
  have h := finS_txt 0 H [] W P t
  rw [Nat.zero_add, Nat.mul_comm H W] at h
  have h2 := finS_tr tr_lf (W * H) [] (txtT W H P ++ t)
  rw [List.singleton_append] at h2
  rw [h2]
  unfold txtT
  rw [h]
  rfl
/-- A text without its last pixel, and the LF behind it. -/
theorem finS_short (m n : Nat) (P : Nat → Nat → Bool) : finS ((m + 1) * (n + 1)) [] (10 :: ((List.range n).flatMap (rowT (m + 1) P) ++ (List.range m).flatMap (cellT (m + 1) P n))) = .error 32 := by
  have h2 := finS_tr tr_lf ((m + 1) * (n + 1)) [] ((List.range n).flatMap (rowT (m + 1) P) ++ (List.range m).flatMap (cellT (m + 1) P n))
  rw [List.singleton_append] at h2
  rw [h2, show (m + 1) * (n + 1) = (1 + m) + n * (m + 1) from by rw [Nat.mul_comm, Nat.add_mul]; omega, finS_txt]
  have h3 := finS_row 1 m ([] ++ bitsOf (m + 1) n P) (m + 1) P n []
  rw [List.append_nil] at h3
  rw [h3]
  rfl

/-! ### Heads -/
theorem headS_cons (c W H : Nat) (t : List Nat) : headS c W H ++ t = 80 :: c :: ([10] ++ decN W ++ 32 :: (decN H ++ 10 :: t)) := by simp [headS]
theorem body_head (txt : Bool) (W H : Nat) (hW : W ≤ 2147483648) (hH : H ≤ 2147483648) (hs : sizeS W H = true) (t : List Nat) :
    bodyS txt ([10] ++ decN W ++ 32 :: (decN H ++ 10 :: t)) = if txt then digitsS W H (10 :: t) else rowsS W H (10 :: t) := by
  unfold bodyS
  rw [numberS_dec [10] W hW 32 _ rfl tr_lf (by simp)]
  have h := numberS_dec [32] H hH 10 t rfl tr_bl (by simp)
  simp only [List.cons_append, List.nil_append] at h
  simp only [h, hs, if_true]
theorem numberS_alone (g : List Nat) (n : Nat) (hn : n ≤ 2147483648) (hg : ∀ r, gapS false (g ++ r) = gapS false r) (hne : g ≠ []) : numberS (g ++ decN n) = some (n, []) := by
  obtain ⟨d, r, e, hd⟩ := decN_ne n
  have h1 : gapS false (g ++ decN n) = decN n := by rw [hg, e]; exact digit_stays hd _
  unfold numberS
  rw [h1, if_neg, if_pos]
  · have := numS_dec n hn []
    rw [List.append_nil] at this
    rw [this]
    rfl
  · rw [e]; exact hd
  · have := List.length_pos_iff.2 hne
    simp; omega
theorem sizeS_iff {W H : Nat} : sizeS W H = true ↔ 1 ≤ W ∧ 1 ≤ H ∧ W * H ≤ 1048576 := by unfold sizeS; simp [and_assoc]
theorem size_le {W H : Nat} (h : sizeS W H = true) : W ≤ 1048576 ∧ H ≤ 1048576 := by
  obtain ⟨a, b, c⟩ := sizeS_iff.1 h
  have h1 : W * 1 ≤ W * H := Nat.mul_le_mul_left _ b
  have h2 : 1 * H ≤ W * H := Nat.mul_le_mul_right _ a
  omega

/-! ### Rows of bytes -/
theorem packS_testBit (f : Nat → Bool) : ∀ n i, (packS f n).testBit i = (decide (i < n) && f (n - 1 - i))
  | 0, i => by simp [packS]
  | n + 1, 0 => by
    simp only [packS, Nat.testBit_zero]
    cases h : f n <;> simp [h] <;> omega
  | n + 1, i + 1 => by
    simp only [packS, Nat.testBit_succ]
    rw [show (2 * packS f n + (f n).toNat) / 2 = packS f n from by cases f n <;> simp <;> omega, packS_testBit f n i]
    by_cases h : i < n
    · rw [show n + 1 - 1 - (i + 1) = n - 1 - i from by omega]; simp [h]
    · simp [h]
theorem packS_lt (f : Nat → Bool) : ∀ n, packS f n < 2 ^ n
  | 0 => by simp [packS]
  | n + 1 => by
    have := packS_lt f n
    have h2 : (f n).toNat ≤ 1 := by cases f n <;> simp
    simp only [packS, Nat.pow_succ]; omega
theorem txtB_length (W n : Nat) (P : Nat → Nat → Bool) : (txtB W n P).length = wideS W * n := by
  induction n with
  | zero => simp [txtB]
  | succ n ih =>
    have : txtB W (n + 1) P = txtB W n P ++ rowB W P n := by simp [txtB, List.range_succ]
    rw [this, List.length_append, ih, Nat.mul_add]
    simp [rowB]
theorem txtB_get (W n : Nat) (P : Nat → Nat → Bool) {k y : Nat} (hx : k < wideS W) (hy : y < n) : (txtB W n P).getD (y * wideS W + k) 0 = byteS W P y k := by
  induction n with
  | zero => omega
  | succ n ih =>
    have he : txtB W (n + 1) P = txtB W n P ++ rowB W P n := by simp [txtB, List.range_succ]
    rw [he, List.getD_eq_getElem?_getD]
    by_cases h : y < n
    · have hl : y * wideS W + k < wideS W * n := by
        have : (y + 1) * wideS W ≤ n * wideS W := Nat.mul_le_mul_right _ h
        rw [Nat.add_mul, Nat.mul_comm n] at this; omega
      rw [List.getElem?_append_left (by rw [txtB_length]; exact hl), ← List.getD_eq_getElem?_getD, ih h]
    · obtain rfl : y = n := by omega
      rw [List.getElem?_append_right (by rw [txtB_length, Nat.mul_comm]; omega), txtB_length, Nat.mul_comm (wideS W) y, show y * wideS W + k - y * wideS W = k from by omega]
      simp [rowB, hx]
theorem plcB_txt (W H : Nat) (P : Nat → Nat → Bool) {x y : Nat} (hx : x < W) (hy : y < H) : plcB W (txtB W H P) x y = P x y := by
  unfold plcB
  rw [txtB_get W H P (by unfold wideS; omega) hy]
  unfold byteS
  rw [packS_testBit, show 8 - 1 - (7 - x % 8) = x % 8 from by omega, show 8 * (x / 8) + x % 8 = x from by omega]
  simp [hx]; omega

/-! ### What is written is read -/
theorem read_back (txt : Bool) (W H : Nat) (P : Nat → Nat → Bool) (hs : sizeS W H = true) :
    ∃ Q, readS (fileS txt W H P) = .ok (W, H, Q) ∧ ∀ x y, x < W → y < H → Q x y = P x y := by
  have hb := size_le hs
  cases txt with
  | true =>
    refine ⟨plcT W (bitsOf W H P), ?_, fun x y hx hy => bitsOf_get W H P hx hy⟩
    simp only [fileS, if_true]
    rw [headS_cons]
    simp only [readS]
    rw [body_head true W H (by omega) (by omega) hs]
    simp only [if_true]
    have h := finS_all W H P []
    rw [List.append_nil] at h
    rw [digitsS_fin, h]
    simp [gapS]
  | false =>
    refine ⟨plcB W (txtB W H P), ?_, fun x y hx hy => plcB_txt W H P hx hy⟩
    simp only [fileS, Bool.false_eq_true, if_false]
    rw [headS_cons]
    simp only [readS]
    rw [body_head false W H (by omega) (by omega) hs]
    simp [rowsS, white, txtB_length]
theorem read_more (txt : Bool) (W H : Nat) (P : Nat → Nat → Bool) (hs : sizeS W H = true) : readS (fileS txt W H P ++ [49]) = .error 33 := by
  have hb := size_le hs
  cases txt with
  | true =>
    simp only [fileS, if_true]
    rw [List.append_assoc, headS_cons]
    simp only [readS]
    rw [body_head true W H (by omega) (by omega) hs]
    simp only [if_true]
    rw [digitsS_fin, finS_all W H P [49]]
    simp [gapS, white]
  | false =>
    simp only [fileS, Bool.false_eq_true, if_false]
    rw [List.append_assoc, headS_cons]
    simp only [readS]
    rw [body_head false W H (by omega) (by omega) hs]
    simp [rowsS, white, txtB_length]
theorem fileS_len (txt : Bool) (W H : Nat) (P : Nat → Nat → Bool) (hs : sizeS W H = true) : 7 ≤ (fileS txt W H P).length := by
  obtain ⟨a, b, _⟩ := sizeS_iff.1 hs
  obtain ⟨_, _, e1, _⟩ := decN_ne W
  obtain ⟨_, _, e2, _⟩ := decN_ne H
  cases txt <;> simp [fileS, headS, e1, e2] <;> omega
theorem read_less (txt : Bool) (W H : Nat) (P : Nat → Nat → Bool) (hs : sizeS W H = true) :
    readS ((fileS txt W H P).take ((fileS txt W H P).length - 2)) = .error 32 ∨ (txt = false ∧ readS ((fileS txt W H P).take ((fileS txt W H P).length - 2)) = .error 30) := by
  have hb := size_le hs
  obtain ⟨a, b, _⟩ := sizeS_iff.1 hs
  cases txt with
  | true =>
    refine Or.inl ?_
    obtain ⟨m, rfl⟩ : ∃ m, W = m + 1 := ⟨W - 1, by omega⟩
    obtain ⟨n, rfl⟩ : ∃ n, H = n + 1 := ⟨H - 1, by omega⟩
    have he : fileS true (m + 1) (n + 1) P = (headS 49 (m + 1) (n + 1) ++ ((List.range n).flatMap (rowT (m + 1) P) ++ (List.range m).flatMap (cellT (m + 1) P n))) ++ [dgt (P m n), 10] := by
      simp only [fileS, if_true, txtT]
      rw [List.range_succ (n := n), List.flatMap_append]
      simp only [List.flatMap_cons, List.flatMap_nil, List.append_nil]
      rw [show rowT (m + 1) P n = (List.range m).flatMap (cellT (m + 1) P n) ++ [dgt (P m n), 10] from by unfold rowT; rw [List.range_succ, List.flatMap_append]; simp [cellT]]
      simp
    rw [he, List.length_append, show ∀ z : Nat, z + [dgt (P m n), 10].length - 2 = z from fun z => by simp, List.take_left, headS_cons]
    simp only [readS]
    rw [body_head true (m + 1) (n + 1) (by omega) (by omega) hs]
    simp only [if_true]
    rw [digitsS_fin, finS_short]
  | false =>
    simp only [fileS, Bool.false_eq_true, if_false]
    have hlen : (txtB W H P).length = wideS W * H := txtB_length W H P
    have hpos : 1 ≤ wideS W * H := Nat.mul_pos (by unfold wideS; omega) (by omega)
    by_cases h2 : 2 ≤ wideS W * H
    · refine Or.inl ?_
      have hll : (headS 52 W H ++ txtB W H P).length - 2 = (headS 52 W H).length + ((txtB W H P).length - 2) := by rw [List.length_append]; omega
      rw [hll, List.take_length_add_append, headS_cons]
      simp only [readS]
      rw [body_head false W H (by omega) (by omega) hs]
      simp [rowsS, white, hlen]
      omega
    · refine Or.inr (And.intro trivial ?_)
      obtain ⟨z, hz⟩ : ∃ z, txtB W H P = [z] := by
        have : (txtB W H P).length = 1 := by omega
        obtain ⟨z, hz⟩ := List.length_eq_one_iff.1 this
        exact ⟨z, hz⟩
      have he : headS 52 W H ++ txtB W H P = ([80, 52, 10] ++ decN W ++ [32] ++ decN H) ++ [10, z] := by rw [hz]; simp [headS]
      rw [he, List.length_append, show ∀ q : Nat, q + [10, z].length - 2 = q from fun q => by simp, List.take_left]
      rw [show [80, 52, 10] ++ decN W ++ [32] ++ decN H = 80 :: 52 :: ([10] ++ decN W ++ 32 :: decN H) from by simp]
      simp only [readS]
      unfold bodyS
      rw [numberS_dec [10] W (by omega) 32 _ rfl tr_lf (by simp)]
      have h := numberS_alone [32] H (by omega) tr_bl (by simp)
      simp only [List.singleton_append] at h
      simp only [h, hs, if_true, Bool.false_eq_true, if_false]
      rfl
end Go.Proofs.YtpfajkkjnobdlaaDoor
