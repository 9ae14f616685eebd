/- Numbers that were put are got. -/
import Derived.Test.YtllhekkclhcdbaaDoorDc
namespace Go.Proofs.YtllhekkclhcdbaaDoor

theorem take_pref {n : Nat} (h1 : 1 ≤ n) (h2 : n ≤ 131072) {L : List (Int × Nat)} (hL : ∀ p ∈ L, p.2 < 2) (hm : L.length ≤ 16777216) (base size : Nat) (a b : List Nat) (pre post : List (Int × Nat)) (v : Nat) (e : L = pre ++ decs base size v (a ++ b) ++ post) :
    takeD (codedB n L) base size a.length (decL n L pre.length, v) 0 = (joinB 0 a, (decL n L (pre.length + a.length), vEnd size v a)) := by
  refine take_back h1 h2 hL hm base size a pre (decs base size (vEnd size v a) b ++ post) v 0 ?_
  rw [e, decs_cat, List.append_assoc, List.append_assoc, List.append_assoc]

/-- The bits of a head. -/
def hbK (k : Nat) : List Nat := hiBits (rowH k) (rowX k)
theorem hbK_no : ∀ k, k < 6 → ∀ j, j < k → joinB 0 ((hbK k).take (hdN (j + 1))) ≠ rowH j := by decide
theorem hbK_yes : ∀ k, k < 6 → (k = 5 ∨ joinB 0 ((hbK k).take (hdN (k + 1))) = rowH k) := by decide
theorem hdN_le : ∀ k, k < 6 → ∀ j, j ≤ k → hdN (j + 1) ≤ rowX k := by decide

theorem head_back {n : Nat} (h1 : 1 ≤ n) (h2 : n ≤ 131072) {L : List (Int × Nat)} (hL : ∀ p ∈ L, p.2 < 2) (hm : L.length ≤ 16777216) (base : Nat) (pre post : List (Int × Nat)) (v k : Nat) (hk : k < 6) (e : L = pre ++ decs base 512 v (hbK k) ++ post) :
    headK (codedB n L) base 512 (decL n L pre.length, v) = k := by
  have key : ∀ j, j ≤ rowX k → (takeD (codedB n L) base 512 j (decL n L pre.length, v) 0).1 = joinB 0 ((hbK k).take j) := by
    intro j hj
    have hl : ((hbK k).take j).length = j := by
      rw [List.length_take, hbK, hiBits_len]; omega
    have := take_pref h1 h2 hL hm base 512 ((hbK k).take j) ((hbK k).drop j) pre post v (by rw [List.take_append_drop]; exact e)
    rw [hl] at this
    rw [this]
  refine headK_at hk (fun j hj => ?_) ?_
  · rw [key _ (hdN_le k hk j (by omega))]
    exact hbK_no k hk j hj
  · rcases hbK_yes k hk with h | h
    · exact .inl h
    · exact .inr (by rw [key _ (hdN_le k hk k (Nat.le_refl _))]; exact h)

theorem numBits_cat {v : Int} {nn : Bool} (h : mayP v nn = true) : numBits v nn = hiBits (signOf v nn) 1 ++ hbK (rowIx (amountOf v nn)) ++ hiBits (amountOf v nn - rowL (rowIx (amountOf v nn))) (rowW (rowIx (amountOf v nn))) := by
  obtain ⟨_, a2⟩ := row_above (amountOf_le h)
  obtain ⟨_, _, _, _, _, b6⟩ := row_small (amountOf v nn)
  unfold numBits numWord numLen hbK
  rw [hiBits_cat _ _ _ a2, hiBits_cat _ _ _ b6]

/-- A number that was put is got. -/
theorem number_back {n : Nat} (h1 : 1 ≤ n) (h2 : n ≤ 131072) {L : List (Int × Nat)} (hL : ∀ p ∈ L, p.2 < 2) (hm : L.length ≤ 16777216) (base : Nat) (pre post : List (Int × Nat)) {v : Int} {nn : Bool} (hmay : mayP v nn = true) (e : L = pre ++ decs base 512 1 (numBits v nn) ++ post) :
    (numD (codedB n L) base (decL n L pre.length, 1)).1 = signOf v nn ∧ (numD (codedB n L) base (decL n L pre.length, 1)).2.1 = amountOf v nn ∧ (numD (codedB n L) base (decL n L pre.length, 1)).2.2.1 = decL n L (pre.length + (decs base 512 1 (numBits v nn)).length) := by
  obtain ⟨a1, a2⟩ := row_above (amountOf_le hmay)
  have hk := rowIx_lt (amountOf v nn)
  have hs := signOf_lt v nn
  rw [numBits_cat hmay] at e
  rw [numBits_cat hmay]
  generalize amountOf v nn = m at *
  generalize rowIx m = k at *
  generalize signOf v nn = s at *
  have e1 : L = pre ++ decs base 512 1 (hiBits s 1 ++ (hbK k ++ hiBits (m - rowL k) (rowW k))) ++ post := by rw [e]; simp
  have t1 := take_pref h1 h2 hL hm base 512 (hiBits s 1) _ pre post 1 e1
  rw [hiBits_len, joinB_hi] at t1
  have hs2 : 0 * 2 ^ 1 + s % 2 ^ 1 = s := by omega
  rw [hs2] at t1
  have hp1 : (pre ++ decs base 512 1 (hiBits s 1)).length = pre.length + 1 := by rw [List.length_append, decs_len, hiBits_len]
  have e2 : L = (pre ++ decs base 512 1 (hiBits s 1)) ++ decs base 512 (vEnd 512 1 (hiBits s 1)) (hbK k ++ hiBits (m - rowL k) (rowW k)) ++ post := by
    rw [e1, decs_cat]; simp
  have t2 := take_pref h1 h2 hL hm base 512 (hbK k) (hiBits (m - rowL k) (rowW k)) _ post _ e2
  rw [hp1] at t2
  have e2' : L = (pre ++ decs base 512 1 (hiBits s 1)) ++ decs base 512 (vEnd 512 1 (hiBits s 1)) (hbK k) ++ (decs base 512 (vEnd 512 (vEnd 512 1 (hiBits s 1)) (hbK k)) (hiBits (m - rowL k) (rowW k)) ++ post) := by
    rw [e2, decs_cat]; simp
  have t3 := head_back h1 h2 hL hm base _ _ _ k hk e2'
  rw [hp1] at t3
  have hlen2 : (hbK k).length = rowX k := hiBits_len _ _
  have hp2 : (pre ++ decs base 512 1 (hiBits s 1) ++ decs base 512 (vEnd 512 1 (hiBits s 1)) (hbK k)).length = pre.length + 1 + rowX k := by rw [List.length_append, hp1, decs_len, hlen2]
  have e3 : L = (pre ++ decs base 512 1 (hiBits s 1) ++ decs base 512 (vEnd 512 1 (hiBits s 1)) (hbK k)) ++ decs base 512 (vEnd 512 (vEnd 512 1 (hiBits s 1)) (hbK k)) (hiBits (m - rowL k) (rowW k)) ++ post := by
    rw [e2']; simp
  have t4 := take_back h1 h2 hL hm base 512 (hiBits (m - rowL k) (rowW k)) _ post _ 0 e3
  rw [hp2, hiBits_len, joinB_hi, Nat.mod_eq_of_lt a2] at t4
  rw [hlen2] at t2
  unfold numD
  dsimp only
  rw [t1]
  dsimp only
  rw [t3, t2]
  dsimp only
  rw [t4]
  refine ⟨rfl, by show rowL k + (0 * 2 ^ rowW k + (m - rowL k)) = m; omega, ?_⟩
  show decL n L _ = decL n L _
  congr 1
  rw [decs_len, List.length_append, List.length_append, hiBits_len, hiBits_len, hlen2]
  omega

theorem join_back {v : Int} {nn : Bool} (h : mayP v nn = true) : joinI (signOf v nn) (amountOf v nn) = (if nn then 0 else v) ∧ joinN (signOf v nn) (amountOf v nn) = nn ∧ amountOf v nn ≤ 2147483648 := by
  have hle := amountOf_le h
  refine ⟨?_, ?_, hle⟩
  · unfold joinI
    rw [if_neg (by omega)]
    unfold signOf amountOf
    cases nn
    · by_cases hv : v < 0
      · simp [hv]; omega
      · simp [hv]; omega
    · simp
  · unfold joinN
    rw [if_neg (by omega)]
    unfold signOf amountOf
    cases nn
    · by_cases hv : v < 0
      · simp [hv]; omega
      · simp [hv]
    · simp

theorem numsL_pre (V : Nat → Int) (N : Nat → Bool) (n : Nat) : ∀ m, n ≤ m → ∃ post, numsL V N m = numsL V N n ++ post
  | 0, h => ⟨[], by
    obtain rfl : n = 0 := (by omega)
    simp⟩
  | m + 1, h => by
    rcases Nat.lt_or_ge n (m + 1) with e | e
    · obtain ⟨post, hp⟩ := numsL_pre V N n m (by omega)
      exact ⟨post ++ decs 0 512 1 (numBits (V m) (N m)), by simp [numsL, hp]⟩
    · obtain rfl : n = m + 1 := by omega
      exact ⟨[], by simp⟩

/-- A row of numbers is read again. -/
theorem nums_back (V : Nat → Int) (N : Nat → Bool) (n : Nat) (hn : n ≤ 200) (hmay : ∀ j, j < n → mayP (V j) (N j) = true) :
    ∀ i, i ≤ n → dN (codedB 512 (numsL V N n)) i = decL 512 (numsL V N n) (numsL V N i).length ∧ (i < n → sgN (codedB 512 (numsL V N n)) i = signOf (V i) (N i) ∧ amN (codedB 512 (numsL V N n)) i = amountOf (V i) (N i)) := by
  have hlen := numsL_len V N n
  have step : ∀ i, i < n → dN (codedB 512 (numsL V N n)) i = decL 512 (numsL V N n) (numsL V N i).length → sgN (codedB 512 (numsL V N n)) i = signOf (V i) (N i) ∧ amN (codedB 512 (numsL V N n)) i = amountOf (V i) (N i) ∧ dN (codedB 512 (numsL V N n)) (i + 1) = decL 512 (numsL V N n) (numsL V N (i + 1)).length := by
    intro i hi hd
    obtain ⟨post, hp⟩ := numsL_pre V N (i + 1) n (by omega)
    have hb := number_back (n := 512) (by omega) (by omega) (numsL_bit V N n) (by omega) 0 (numsL V N i) post (hmay i hi) (by rw [hp]; rfl)
    unfold sgN amN
    rw [hd]
    refine ⟨hb.1, hb.2.1, ?_⟩
    show (numD _ 0 (dN _ i, 1)).2.2.1 = _
    rw [hd, hb.2.2]
    congr 1
    simp [numsL]
  have all : ∀ i, i ≤ n → dN (codedB 512 (numsL V N n)) i = decL 512 (numsL V N n) (numsL V N i).length := by
    intro i
    induction i with
    | zero => intro _; rfl
    | succ i ih => intro hi; exact (step i (by omega) (ih (by omega))).2.2
  intro i hi
  exact ⟨all i hi, fun h => ⟨(step i h (all i hi)).1, (step i h (all i hi)).2.1⟩⟩

end Go.Proofs.YtllhekkclhcdbaaDoor
