/- Decisions in a row, coded and read again. -/
import Derived.Test.YtkggdnkmaldmlabKBackQ
import Derived.Test.YtkggdnkmaldmlabK1
import Derived.Test.YtkggdnkmaldmlabK3
namespace Go.Proofs.Ytkggdnkmaldmlab

/-- A coder behind decisions. -/
def runL (o : Co) (L : List (Int × Nat)) : Co := L.foldl (fun o p => putP o p.1 p.2) o
theorem runL_cat (o : Co) (L M : List (Int × Nat)) : runL o (L ++ M) = runL (runL o L) M := by simp [runL]
theorem runL_snoc (o : Co) (L : List (Int × Nat)) (p : Int × Nat) : runL o (L ++ [p]) = putP (runL o L) p.1 p.2 := by simp [runL]
theorem runL_ok {o : Co} (h : Ook o) : ∀ (L : List (Int × Nat)), o.made + L.length ≤ 16777216 → Ook (runL o L) ∧ (runL o L).made = o.made + L.length ∧ (runL o L).x.length = o.x.length := by
  intro L
  induction L generalizing o with
  | nil => intro _; exact ⟨h, rfl, rfl⟩
  | cons p L ih =>
    intro hm
    simp only [List.length_cons] at hm
    have h1 : Ook (putP o p.1 p.2) := putP_ok h p.1 p.2 (by omega)
    have h2 : (putP o p.1 p.2).made = o.made + 1 := rfl
    obtain ⟨a, b, c⟩ := ih h1 (by rw [h2]; omega)
    refine ⟨a, ?_, ?_⟩
    · show (runL (putP o p.1 p.2) L).made = _
      rw [b, h2]; simp; omega
    · show (runL (putP o p.1 p.2) L).x.length = _
      rw [c, putP_xlen]

def kOf (L : List (Int × Nat)) (i : Nat) : Int := (L.getD i (0, 0)).1
def dOf (L : List (Int × Nat)) (i : Nat) : Nat := (L.getD i (0, 0)).2
theorem runC_take (n : Nat) (L : List (Int × Nat)) : ∀ k, k ≤ L.length → runC n (kOf L) (dOf L) k = runL (newP n) (L.take k)
  | 0, _ => by simp [runC, runL]
  | k + 1, h => by
    have e : L.take (k + 1) = L.take k ++ [L.getD k (0, 0)] := by
      rw [List.take_add_one, List.getD_eq_getElem?_getD, List.getElem?_eq_getElem (by omega)]; rfl
    rw [e, runL_snoc, ← runC_take n L k (by omega)]; rfl
theorem runC_all (n : Nat) (L : List (Int × Nat)) : runC n (kOf L) (dOf L) L.length = runL (newP n) L := by
  rw [runC_take n L _ (Nat.le_refl _), List.take_length]

/-- The decoder over a coder's bytes. -/
def codedB (n : Nat) (L : List (Int × Nat)) : List Nat := flushP (runL (newP n) L).s
def decL (n : Nat) (L : List (Int × Nat)) (k : Nat) : De := decRun (codedB n L) n (kOf L) k
theorem back_list {n : Nat} (h1 : 1 ≤ n) (h2 : n ≤ 131072) {L : List (Int × Nat)} (hL : ∀ p ∈ L, p.2 < 2) (hm : L.length ≤ 16777216) :
    ∀ k, k ≤ L.length → (decL n L k).x = (runL (newP n) (L.take k)).x ∧ (k < L.length → getBit (decL n L k) (kOf L k) = dOf L k) := by
  have hD : ∀ k, dOf L k < 2 := by
    intro k
    unfold dOf
    rw [List.getD_eq_getElem?_getD]
    by_cases h : k < L.length
    · rw [List.getElem?_eq_getElem h]; exact hL _ (List.getElem_mem h)
    · rw [List.getElem?_eq_none (by omega)]; decide
  intro k hk
  obtain ⟨_, b, c⟩ := back_run h1 h2 (kOf L) (dOf L) hD hm k hk
  rw [runC_all] at b c
  rw [runC_take n L k hk] at b
  exact ⟨b, c⟩

end Go.Proofs.Ytkggdnkmaldmlab

/- A bitmap's decisions, whoever decides. -/
namespace Go.Proofs.Ytkggdnkmaldmlab

abbrev Pxs := Nat → Nat → Bool
/-- The row above. -/
def upP (P : Pxs) (y x : Nat) : Bool := if y = 0 then false else P x (y - 1)
def sameR (W : Nat) (P : Pxs) (y : Nat) : Bool := decide (∀ x, x < W → P x y = upP P y x)
def copyR (W : Nat) (P : Pxs) (y : Nat) : Pxs := fun a e => if e = y ∧ a < W then upP P y a else P a e

/-- Pixels of a row, so many; a row; rows, so many: `ask` decides. -/
def pixW {A : Type} (ask : A → Int → Nat → Nat × A) (base t W y : Nat) : Nat → A × Pxs → A × Pxs
  | 0, s => s
  | n + 1, s => ((ask (pixW ask base t W y n s).1 ((base + cxJ W (pixW ask base t W y n s).2 t n y : Nat) : Int) ((pixW ask base t W y n s).2 n y).toNat).2,
      putPix (pixW ask base t W y n s).2 n y (decide ((ask (pixW ask base t W y n s).1 ((base + cxJ W (pixW ask base t W y n s).2 t n y : Nat) : Int) ((pixW ask base t W y n s).2 n y).toNat).1 = 1)))
def rowW {A : Type} (ask : A → Int → Nat → Nat × A) (base t W : Nat) (skip : Bool) (y : Nat) (s : A × Pxs) : A × Pxs :=
  if skip then
    if (ask s.1 ((base + sizeT t : Nat) : Int) (sameR W s.2 y).toNat).1 = 0 then pixW ask base t W y W ((ask s.1 ((base + sizeT t : Nat) : Int) (sameR W s.2 y).toNat).2, s.2)
    else ((ask s.1 ((base + sizeT t : Nat) : Int) (sameR W s.2 y).toNat).2, copyR W s.2 y)
  else pixW ask base t W y W s
def thrW {A : Type} (ask : A → Int → Nat → Nat × A) (base t W : Nat) (skip : Bool) : Nat → A × Pxs → A × Pxs
  | 0, s => s
  | n + 1, s => rowW ask base t W skip n (thrW ask base t W skip n s)

/-- Rows below are as they were. -/
theorem pixW_other {A : Type} (ask : A → Int → Nat → Nat × A) (base t W y : Nat) (s : A × Pxs) : ∀ n a e, ¬ (e = y ∧ a < n) → (pixW ask base t W y n s).2 a e = s.2 a e
  | 0, _, _, _ => rfl
  | n + 1, a, e, h => by
    show putPix _ n y _ a e = _
    unfold putPix
    rw [if_neg (by omega), pixW_other ask base t W y s n a e (by omega)]
theorem rowW_other {A : Type} (ask : A → Int → Nat → Nat × A) (base t W : Nat) (skip : Bool) (y : Nat) (s : A × Pxs) (a e : Nat) (h : e ≠ y ∨ W ≤ a) : (rowW ask base t W skip y s).2 a e = s.2 a e := by
  unfold rowW
  split
  · split
    · rw [pixW_other _ _ _ _ _ _ _ _ _ (by omega)]
    · show copyR W s.2 y a e = _
      unfold copyR; rw [if_neg (by omega)]
  · rw [pixW_other _ _ _ _ _ _ _ _ _ (by omega)]
theorem thrW_other {A : Type} (ask : A → Int → Nat → Nat × A) (base t W : Nat) (skip : Bool) (s : A × Pxs) : ∀ n a e, (n ≤ e ∨ W ≤ a) → (thrW ask base t W skip n s).2 a e = s.2 a e
  | 0, _, _, _ => rfl
  | n + 1, a, e, h => by
    show (rowW ask base t W skip n (thrW ask base t W skip n s)).2 a e = _
    rw [rowW_other _ _ _ _ _ _ _ _ _ (by omega), thrW_other ask base t W skip s n a e (by omega)]

/-- A bitmap's decisions. -/
def pixD (base t W : Nat) (P : Pxs) (y : Nat) : Nat → List (Int × Nat)
  | 0 => []
  | n + 1 => pixD base t W P y n ++ [(((base + cxJ W P t n y : Nat) : Int), (P n y).toNat)]
def rowD (base t W : Nat) (skip : Bool) (P : Pxs) (y : Nat) : List (Int × Nat) :=
  if skip then (((base + sizeT t : Nat) : Int), (sameR W P y).toNat) :: (if sameR W P y then [] else pixD base t W P y W) else pixD base t W P y W
def rowsD (base t W : Nat) (skip : Bool) (P : Pxs) : Nat → List (Int × Nat)
  | 0 => []
  | n + 1 => rowsD base t W skip P n ++ rowD base t W skip P n
theorem pixD_bits (base t W : Nat) (P : Pxs) (y : Nat) : ∀ n, ∀ p ∈ pixD base t W P y n, p.2 < 2
  | 0, p, h => by simp [pixD] at h
  | n + 1, p, h => by
    simp only [pixD, List.mem_append, List.mem_singleton] at h
    rcases h with h | rfl
    · exact pixD_bits base t W P y n p h
    · have := Bool.toNat_le (P n y); show (P n y).toNat < 2; omega
theorem rowD_bits (base t W : Nat) (skip : Bool) (P : Pxs) (y : Nat) : ∀ p ∈ rowD base t W skip P y, p.2 < 2 := by
  intro p h
  unfold rowD at h
  split at h
  · simp only [List.mem_cons] at h
    rcases h with rfl | h
    · have := Bool.toNat_le (sameR W P y); show (sameR W P y).toNat < 2; omega
    · split at h
      · simp at h
      · exact pixD_bits _ _ _ _ _ _ p h
  · exact pixD_bits _ _ _ _ _ _ p h
theorem rowsD_bits (base t W : Nat) (skip : Bool) (P : Pxs) : ∀ n, ∀ p ∈ rowsD base t W skip P n, p.2 < 2
  | 0, p, h => by simp [rowsD] at h
  | n + 1, p, h => by
    simp only [rowsD, List.mem_append] at h
    rcases h with h | h
    · exact rowsD_bits base t W skip P n p h
    · exact rowD_bits base t W skip P n p h
theorem pixD_length (base t W : Nat) (P : Pxs) (y : Nat) : ∀ n, (pixD base t W P y n).length = n
  | 0 => rfl
  | n + 1 => by rw [pixD, List.length_append, pixD_length base t W P y n]; rfl
theorem rowD_length (base t W : Nat) (skip : Bool) (P : Pxs) (y : Nat) : (rowD base t W skip P y).length ≤ W + 1 := by
  unfold rowD
  split
  · split
    · simp
    · simp [pixD_length]
  · simp [pixD_length]
theorem rowsD_length (base t W : Nat) (skip : Bool) (P : Pxs) : ∀ n, (rowsD base t W skip P n).length ≤ n * (W + 1)
  | 0 => by simp [rowsD]
  | n + 1 => by
    have h1 := rowsD_length base t W skip P n
    have h2 := rowD_length base t W skip P n
    rw [rowsD, List.length_append, Nat.add_mul, Nat.one_mul]; omega

/-- The coder lets each bit be what it is. -/
def askC (o : Co) (i : Int) (b : Nat) : Nat × Co := (b, putP o i b)
theorem putPix_same (P : Pxs) (x y : Nat) : putPix P x y (decide ((P x y).toNat = 1)) = P := by
  funext a e
  unfold putPix
  split
  · rename_i h
    obtain ⟨rfl, rfl⟩ := h
    cases P a e <;> rfl
  · rfl
theorem pixW_coder (base t W y : Nat) (o : Co) (P : Pxs) : ∀ n, pixW askC base t W y n (o, P) = (runL o (pixD base t W P y n), P)
  | 0 => rfl
  | n + 1 => by
    rw [pixW, pixW_coder base t W y o P n, pixD, runL_snoc]
    show (putP _ _ _, putPix P n y _) = _
    rw [show (askC (runL o (pixD base t W P y n)) ((base + cxJ W P t n y : Nat) : Int) (P n y).toNat).1 = (P n y).toNat from rfl, putPix_same]
theorem copyR_same (W : Nat) (P : Pxs) (y : Nat) (h : sameR W P y = true) : copyR W P y = P := by
  funext a e
  unfold copyR
  split
  · rename_i hh
    obtain ⟨rfl, hw⟩ := hh
    exact (of_decide_eq_true h a hw).symm
  · rfl
theorem rowW_coder (base t W : Nat) (skip : Bool) (y : Nat) (o : Co) (P : Pxs) : rowW askC base t W skip y (o, P) = (runL o (rowD base t W skip P y), P) := by
  unfold rowW rowD
  cases skip
  · simp only [Bool.false_eq_true, if_false]; exact pixW_coder base t W y o P W
  · simp only [if_true]
    show (if (sameR W P y).toNat = 0 then _ else _) = _
    cases hs : sameR W P y
    · simp only [Bool.toNat_false, if_true, Bool.false_eq_true, if_false]
      rw [show (askC o ((base + sizeT t : Nat) : Int) 0).2 = putP o ((base + sizeT t : Nat) : Int) 0 from rfl, pixW_coder]
      rfl
    · simp only [Bool.toNat_true, if_true]
      rw [if_neg (by decide), copyR_same W P y hs]
      rfl
theorem thrW_coder (base t W : Nat) (skip : Bool) (o : Co) (P : Pxs) : ∀ n, thrW askC base t W skip n (o, P) = (runL o (rowsD base t W skip P n), P)
  | 0 => rfl
  | n + 1 => by
    rw [thrW, thrW_coder base t W skip o P n, rowW_coder, rowsD, runL_cat]

/-- The decoder tells them. -/
def askD (B : List Nat) (d : De) (i : Int) (_b : Nat) : Nat × De := (getBit d i, getP B d i)
/-- What has come of a bitmap: the rows above y, and x pixels of row y. -/
def cur (W : Nat) (P : Pxs) (y x : Nat) : Pxs := fun a e => if a < W ∧ (e < y ∨ (e = y ∧ a < x)) then P a e else false
theorem cur_cx (W : Nat) (P : Pxs) (t x y : Nat) (ht : t < 4) : cxJ W (cur W P y x) t x y = cxJ W P t x y := by
  refine cxJ_congr W _ _ t x y ht fun a b ha hb => ?_
  unfold cur; rw [if_pos ⟨ha, hb⟩]
theorem cur_put (W : Nat) (P : Pxs) (x y : Nat) (hx : x < W) : putPix (cur W P y x) x y (P x y) = cur W P y (x + 1) := by
  funext a e
  unfold putPix cur
  by_cases h : a = x ∧ e = y
  · obtain ⟨rfl, rfl⟩ := h
    rw [if_pos ⟨rfl, rfl⟩, if_pos ⟨hx, by omega⟩]
  · rw [if_neg h]
    by_cases h2 : a < W ∧ (e < y ∨ (e = y ∧ a < x))
    · rw [if_pos h2, if_pos ⟨h2.1, by omega⟩]
    · rw [if_neg h2, if_neg (by omega)]
theorem cur_row (W : Nat) (P : Pxs) (y : Nat) : cur W P y W = cur W P (y + 1) 0 := by
  funext a e
  unfold cur
  by_cases h2 : a < W ∧ (e < y ∨ (e = y ∧ a < W))
  · rw [if_pos h2, if_pos ⟨h2.1, by omega⟩]
  · rw [if_neg h2, if_neg (by omega)]
theorem cur_copy (W : Nat) (P : Pxs) (y : Nat) (h : sameR W P y = true) : copyR W (cur W P y 0) y = cur W P (y + 1) 0 := by
  funext a e
  unfold copyR
  by_cases h1 : e = y ∧ a < W
  · obtain ⟨rfl, hw⟩ := h1
    rw [if_pos ⟨rfl, hw⟩]
    have := of_decide_eq_true h a hw
    unfold cur
    rw [if_pos ⟨hw, by omega⟩, this]
    unfold upP
    by_cases h0 : e = 0
    · rw [if_pos h0, if_pos h0]
    · rw [if_neg h0, if_neg h0]
      show (if a < W ∧ (e - 1 < e ∨ (e - 1 = e ∧ a < 0)) then P a (e - 1) else false) = P a (e - 1)
      rw [if_pos ⟨hw, by omega⟩]
  · rw [if_neg h1]
    unfold cur
    by_cases h2 : a < W ∧ (e < y ∨ (e = y ∧ a < 0))
    · rw [if_pos h2, if_pos ⟨h2.1, by omega⟩]
    · rw [if_neg h2, if_neg (by omega)]
theorem dec_step {n : Nat} (h1 : 1 ≤ n) (h2 : n ≤ 131072) {L : List (Int × Nat)} (hL : ∀ p ∈ L, p.2 < 2) (hm : L.length ≤ 16777216) {pre post : List (Int × Nat)} {i : Int} {b : Nat} (e : L = pre ++ (i, b) :: post) (k : Nat) :
    askD (codedB n L) (decL n L pre.length) i k = (b, decL n L (pre.length + 1)) := by
  have hk : pre.length < L.length := by rw [e]; simp
  have eg : L.getD pre.length (0, 0) = (i, b) := by
    rw [e, List.getD_eq_getElem?_getD, List.getElem?_append_right (Nat.le_refl _), Nat.sub_self]; rfl
  have ek : kOf L pre.length = i := by unfold kOf; rw [eg]
  have ed : dOf L pre.length = b := by unfold dOf; rw [eg]
  have hb := (back_list h1 h2 hL hm pre.length (by omega)).2 hk
  rw [ek, ed] at hb
  show (getBit _ i, getP _ _ i) = _
  rw [hb]
  refine Prod.ext rfl ?_
  show getP _ _ i = _
  rw [← ek]; rfl
theorem pixW_back {n : Nat} (h1 : 1 ≤ n) (h2 : n ≤ 131072) {L : List (Int × Nat)} (hL : ∀ p ∈ L, p.2 < 2) (hm : L.length ≤ 16777216) (base t W y : Nat) (ht : t < 4) (P : Pxs) (pre : List (Int × Nat)) :
    ∀ k, k ≤ W → (∃ post, L = pre ++ pixD base t W P y k ++ post) → pixW (askD (codedB n L)) base t W y k (decL n L pre.length, cur W P y 0) = (decL n L (pre.length + k), cur W P y k)
  | 0, _, _ => rfl
  | k + 1, hk, ⟨post, e⟩ => by
    have e' : L = pre ++ pixD base t W P y k ++ ((((base + cxJ W P t k y : Nat) : Int), (P k y).toNat) :: post) := by rw [e, pixD]; simp
    have ih := pixW_back h1 h2 hL hm base t W y ht P pre k (by omega) ⟨_, e'⟩
    rw [pixW, ih]
    show ((askD _ _ _ _).2, putPix _ k y (decide ((askD _ _ _ _).1 = 1))) = _
    simp only []
    rw [cur_cx W P t k y ht]
    have hs := dec_step h1 h2 hL hm e' (cur W P y k k y).toNat
    rw [List.length_append, pixD_length] at hs
    rw [hs]
    simp only []
    rw [show decide ((P k y).toNat = 1) = P k y by cases P k y <;> rfl, cur_put W P k y (by omega)]
    rfl
theorem rowW_back {n : Nat} (h1 : 1 ≤ n) (h2 : n ≤ 131072) {L : List (Int × Nat)} (hL : ∀ p ∈ L, p.2 < 2) (hm : L.length ≤ 16777216) (base t W : Nat) (skip : Bool) (y : Nat) (ht : t < 4) (P : Pxs) (pre post : List (Int × Nat)) (e : L = pre ++ rowD base t W skip P y ++ post) :
    rowW (askD (codedB n L)) base t W skip y (decL n L pre.length, cur W P y 0) = (decL n L (pre.length + (rowD base t W skip P y).length), cur W P (y + 1) 0) := by
  unfold rowW
  unfold rowD at e ⊢
  cases skip
  · simp only [Bool.false_eq_true, if_false] at e ⊢
    rw [pixW_back h1 h2 hL hm base t W y ht P pre W (Nat.le_refl _) ⟨_, e⟩, cur_row, pixD_length]
  · simp only [if_true] at e ⊢
    have e' : L = pre ++ ((((base + sizeT t : Nat) : Int), (sameR W P y).toNat) :: ((if sameR W P y then [] else pixD base t W P y W) ++ post)) := by rw [e]; simp
    rw [dec_step h1 h2 hL hm e']
    simp only []
    cases hs : sameR W P y
    · rw [hs] at e
      simp only [Bool.toNat_false, if_true, Bool.false_eq_true, if_false] at e ⊢
      have e2 : L = (pre ++ [(((base + sizeT t : Nat) : Int), 0)]) ++ pixD base t W P y W ++ post := by rw [e]; simp
      have := pixW_back h1 h2 hL hm base t W y ht P _ W (Nat.le_refl _) ⟨_, e2⟩
      rw [List.length_append] at this
      rw [show pre.length + 1 = pre.length + [(((base + sizeT t : Nat) : Int), 0)].length from rfl, this, cur_row]
      refine Prod.ext ?_ rfl
      show decL n L _ = decL n L _
      congr 1
      simp [pixD_length]; omega
    · rw [hs] at e
      simp only [Bool.toNat_true, if_true] at e ⊢
      rw [if_neg (by decide), cur_copy W P y hs]
      rfl
theorem cur_first (W : Nat) (P : Pxs) : cur W P 0 0 = fun _ _ => false := by
  funext a e; unfold cur; rw [if_neg (by omega)]
/-- What was coded is read again, row by row. -/
theorem thrW_back {n : Nat} (h1 : 1 ≤ n) (h2 : n ≤ 131072) {L : List (Int × Nat)} (hL : ∀ p ∈ L, p.2 < 2) (hm : L.length ≤ 16777216) (base t W : Nat) (skip : Bool) (ht : t < 4) (P : Pxs) (pre : List (Int × Nat)) :
    ∀ k, (∃ post, L = pre ++ rowsD base t W skip P k ++ post) → thrW (askD (codedB n L)) base t W skip k (decL n L pre.length, fun _ _ => false) = (decL n L (pre.length + (rowsD base t W skip P k).length), cur W P k 0)
  | 0, _ => by rw [cur_first]; rfl
  | k + 1, ⟨post, e⟩ => by
    have e' : L = (pre ++ rowsD base t W skip P k) ++ rowD base t W skip P k ++ post := by rw [e, rowsD]; simp
    have ih := thrW_back h1 h2 hL hm base t W skip ht P pre k ⟨rowD base t W skip P k ++ post, by rw [e']; simp⟩
    have hr := rowW_back h1 h2 hL hm base t W skip k ht P _ _ e'
    rw [List.length_append] at hr
    rw [thrW, ih, hr, rowsD, List.length_append, Nat.add_assoc]

end Go.Proofs.Ytkggdnkmaldmlab
