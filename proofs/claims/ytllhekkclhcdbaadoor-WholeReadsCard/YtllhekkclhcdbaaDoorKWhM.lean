/- Whole numbers by decisions, as plain functions. -/
import Derived.Test.YtllhekkclhcdbaaDoorK3
import Derived.Test.YtllhekkclhcdbaaDoorKWhB
namespace Go.Proofs.YtllhekkclhcdbaaDoor

/-- A coder behind decisions. -/
def runL (o : Co) (L : List (Int × Nat)) : Co := L.foldl (fun o p => putP o p.1 p.2) o
theorem runL_cat (o : Co) (L M : List (Int × Nat)) : runL o (L ++ M) = runL (runL o L) M := by simp [runL]
theorem runL_snoc (o : Co) (L : List (Int × Nat)) (p : Int × Nat) : runL o (L ++ [p]) = putP (runL o L) p.1 p.2 := by simp [runL]
theorem runL_ok {o : Co} (h : Ook o) : ∀ (L : List (Int × Nat)), o.made + L.length ≤ 16777216 → Ook (runL o L) ∧ (runL o L).made = o.made + L.length ∧ (runL o L).x.length = o.x.length := by
  intro L
  induction L generalizing o with
  | nil => intro _; exact ⟨h, rfl, rfl⟩
  | cons p L ih =>
    intro hm
    simp only [List.length_cons] at hm
    have h1 : Ook (putP o p.1 p.2) := putP_ok h p.1 p.2 (by omega)
    have h2 : (putP o p.1 p.2).made = o.made + 1 := rfl
    obtain ⟨a, b, c⟩ := ih h1 (by rw [h2]; omega)
    refine ⟨a, ?_, ?_⟩
    · show (runL (putP o p.1 p.2) L).made = _
      rw [b, h2]; simp; omega
    · show (runL (putP o p.1 p.2) L).x.length = _
      rw [c, putP_xlen]

def kOf (L : List (Int × Nat)) (i : Nat) : Int := (L.getD i (0, 0)).1
def dOf (L : List (Int × Nat)) (i : Nat) : Nat := (L.getD i (0, 0)).2
theorem runC_take (n : Nat) (L : List (Int × Nat)) : ∀ k, k ≤ L.length → runC n (kOf L) (dOf L) k = runL (newP n) (L.take k)
  | 0, _ => by simp [runC, runL]
  | k + 1, h => by
    have e : L.take (k + 1) = L.take k ++ [L.getD k (0, 0)] := by
      rw [List.take_add_one, List.getD_eq_getElem?_getD, List.getElem?_eq_getElem (by omega)]; rfl
    rw [e, runL_snoc, ← runC_take n L k (by omega)]; rfl
theorem runC_all (n : Nat) (L : List (Int × Nat)) : runC n (kOf L) (dOf L) L.length = runL (newP n) L := by
  rw [runC_take n L _ (Nat.le_refl _), List.take_length]

/-- The decoder over a coder's bytes. -/
def codedB (n : Nat) (L : List (Int × Nat)) : List Nat := flushP (runL (newP n) L).s
def decL (n : Nat) (L : List (Int × Nat)) (k : Nat) : De := decRun (codedB n L) n (kOf L) k
theorem back_list {n : Nat} (h1 : 1 ≤ n) (h2 : n ≤ 131072) {L : List (Int × Nat)} (hL : ∀ p ∈ L, p.2 < 2) (hm : L.length ≤ 16777216) :
    ∀ k, k ≤ L.length → (decL n L k).x = (runL (newP n) (L.take k)).x ∧ (k < L.length → getBit (decL n L k) (kOf L k) = dOf L k) := by
  have hD : ∀ k, dOf L k < 2 := by
    intro k
    unfold dOf
    rw [List.getD_eq_getElem?_getD]
    by_cases h : k < L.length
    · rw [List.getElem?_eq_getElem h]; exact hL _ (List.getElem_mem h)
    · rw [List.getElem?_eq_none (by omega)]; decide
  intro k hk
  obtain ⟨_, b, c⟩ := back_run h1 h2 (kOf L) (dOf L) hD hm k hk
  rw [runC_all] at b c
  rw [runC_take n L k hk] at b
  exact ⟨b, c⟩

/-- One bit got, and so many. -/
def takeD (B : List Nat) (base size : Nat) : Nat → De × Nat → Nat → Nat × (De × Nat)
  | 0, s, word => (word, s)
  | n + 1, s, word => takeD B base size n (getP B s.1 ((base + s.2 : Nat) : Int), passP size s.2 (getBit s.1 ((base + s.2 : Nat) : Int))) (2 * word + getBit s.1 ((base + s.2 : Nat) : Int))

/-- A piece of what was coded is read again. -/
theorem take_back {n : Nat} (h1 : 1 ≤ n) (h2 : n ≤ 131072) {L : List (Int × Nat)} (hL : ∀ p ∈ L, p.2 < 2) (hm : L.length ≤ 16777216) (base size : Nat) :
    ∀ (l : List Nat) (pre post : List (Int × Nat)) (v word : Nat), L = pre ++ decs base size v l ++ post →
      takeD (codedB n L) base size l.length (decL n L pre.length, v) word = (joinB word l, (decL n L (pre.length + l.length), vEnd size v l))
  | [], pre, post, v, word, _ => rfl
  | d :: l, pre, post, v, word, e => by
    have hk : pre.length < L.length := by rw [e]; simp [decs]
    have eg : L.getD pre.length (0, 0) = (((base + v : Nat) : Int), d) := by
      rw [e, List.getD_eq_getElem?_getD, List.append_assoc, List.getElem?_append_right (Nat.le_refl _), Nat.sub_self]; rfl
    have ek : kOf L pre.length = ((base + v : Nat) : Int) := by unfold kOf; rw [eg]
    have ed : dOf L pre.length = d := by unfold dOf; rw [eg]
    have hb := (back_list h1 h2 hL hm pre.length (by omega)).2 hk
    rw [ek, ed] at hb
    have e2 : L = (pre ++ [(((base + v : Nat) : Int), d)]) ++ decs base size (passP size v d) l ++ post := by rw [e]; simp [decs]
    have ih := take_back h1 h2 hL hm base size l _ post (passP size v d) (2 * word + d) e2
    show takeD _ base size l.length (getP _ (decL n L pre.length) ((base + v : Nat) : Int), passP size v (getBit (decL n L pre.length) ((base + v : Nat) : Int))) (2 * word + getBit (decL n L pre.length) ((base + v : Nat) : Int)) = _
    have en : getP (codedB n L) (decL n L pre.length) ((base + v : Nat) : Int) = decL n L (pre ++ [(((base + v : Nat) : Int), d)]).length := by
      rw [← ek]; simp; rfl
    rw [hb, en, ih]
    rw [show (pre ++ [(((base + v : Nat) : Int), d)]).length + l.length = pre.length + (d :: l).length by simp; omega]
    rfl
end Go.Proofs.YtllhekkclhcdbaaDoor
