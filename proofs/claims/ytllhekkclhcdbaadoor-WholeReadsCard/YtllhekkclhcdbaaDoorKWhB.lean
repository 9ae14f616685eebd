/- Bits of a word, the highest first. -/
import Derived.ProofKit
namespace Go.Proofs.YtllhekkclhcdbaaDoor

/-- The lowest bits of a word, the highest first. -/
def hiBits (word : Nat) : Nat → List Nat
  | 0 => []
  | n + 1 => (word / 2 ^ n % 2) :: hiBits word n
theorem hiBits_len (word : Nat) : ∀ n, (hiBits word n).length = n
  | 0 => rfl
  | n + 1 => by simp [hiBits, hiBits_len word n]
theorem hiBits_lt (word : Nat) : ∀ n, ∀ d ∈ hiBits word n, d < 2
  | 0 => fun d h => by simp [hiBits] at h
  | n + 1 => fun d h => by
    simp only [hiBits, List.mem_cons] at h
    rcases h with rfl | h
    · exact Nat.mod_lt _ (by decide)
    · exact hiBits_lt word n d h
theorem hiBits_mod (word : Nat) : ∀ n k, n ≤ k → hiBits (word % 2 ^ k) n = hiBits word n
  | 0, _, _ => rfl
  | n + 1, k, h => by
    simp only [hiBits, hiBits_mod word n k (by omega)]
    congr 1
    obtain ⟨j, rfl⟩ : ∃ j, k = n + (j + 1) := ⟨k - (n + 1), by omega⟩
    rw [Nat.pow_add, Nat.mod_mul_right_div_self, Nat.pow_succ, Nat.mul_comm (2 ^ j) 2, Nat.mod_mul_right_mod]
theorem hiBits_cat (a b m : Nat) (hb : b < 2 ^ m) : ∀ n, hiBits (a * 2 ^ m + b) (n + m) = hiBits a n ++ hiBits b m
  | 0 => by
    rw [Nat.zero_add]
    show _ = [] ++ _
    rw [List.nil_append, ← hiBits_mod (a * 2 ^ m + b) m m (Nat.le_refl _), Nat.mul_comm, Nat.mul_add_mod, Nat.mod_eq_of_lt hb]
  | n + 1 => by
    rw [show n + 1 + m = (n + m) + 1 by omega]
    show _ :: _ = (_ :: _) ++ _
    rw [hiBits_cat a b m hb n, List.cons_append]
    congr 1
    rw [Nat.add_comm n m, Nat.pow_add, ← Nat.div_div_eq_div_mul, Nat.mul_comm a, Nat.mul_add_div (Nat.two_pow_pos m), Nat.div_eq_of_lt hb, Nat.add_zero]
/-- What bits say. -/
def joinB (x : Nat) (l : List Nat) : Nat := l.foldl (fun x d => 2 * x + d) x
theorem joinB_hi (word : Nat) : ∀ n x, joinB x (hiBits word n) = x * 2 ^ n + word % 2 ^ n
  | 0, x => by simp [joinB, hiBits, Nat.mod_one]
  | n + 1, x => by
    show joinB (2 * x + word / 2 ^ n % 2) (hiBits word n) = _
    rw [joinB_hi word n, Nat.pow_succ, Nat.mod_mul, Nat.add_mul, Nat.mul_comm (word / 2 ^ n % 2), Nat.mul_comm 2 x, Nat.mul_assoc, Nat.mul_comm 2 (2 ^ n)]
    omega
theorem joinB_lt : ∀ (l : List Nat), (∀ d ∈ l, d < 2) → ∀ x n, x < 2 ^ n → joinB x l < 2 ^ (n + l.length)
  | [], _, x, n, h => h
  | d :: l, hl, x, n, h => by
    have h1 := hl d (by simp)
    have := joinB_lt l (fun e he => hl e (by simp [he])) (2 * x + d) (n + 1) (by rw [Nat.pow_succ]; omega)
    rw [show n + (d :: l).length = n + 1 + l.length by simp; omega]
    exact this

/-- V behind a bit. -/
def passP (size v bit : Nat) : Nat := if size ≤ 2 * v + bit then (2 * v + bit) % (size / 2) + size / 2 else 2 * v + bit
theorem passP_lt {size v bit : Nat} (h2 : 2 ≤ size) (he : size % 2 = 0) : passP size v bit < size := by
  unfold passP
  split
  · have := Nat.mod_lt (2 * v + bit) (show size / 2 > 0 by omega)
    omega
  · omega
/-- V behind bits. -/
def vEnd (size v : Nat) (l : List Nat) : Nat := l.foldl (fun v d => passP size v d) v
theorem vEnd_snoc (size v : Nat) (l : List Nat) (d : Nat) : vEnd size v (l ++ [d]) = passP size (vEnd size v l) d := by simp [vEnd]
theorem vEnd_lt {size : Nat} (h2 : 2 ≤ size) (he : size % 2 = 0) : ∀ (l : List Nat) (v : Nat), v < size → vEnd size v l < size
  | [], _, h => h
  | d :: l, v, _ => vEnd_lt h2 he l (passP size v d) (passP_lt h2 he)
/-- Bits as decisions. -/
def decs (base size : Nat) : Nat → List Nat → List (Int × Nat)
  | _, [] => []
  | v, d :: l => (((base + v : Nat) : Int), d) :: decs base size (passP size v d) l
theorem decs_len (base size : Nat) : ∀ (l : List Nat) (v : Nat), (decs base size v l).length = l.length
  | [], _ => rfl
  | d :: l, v => by simp [decs, decs_len base size l]
theorem decs_cat (base size : Nat) : ∀ (l m : List Nat) (v : Nat), decs base size v (l ++ m) = decs base size v l ++ decs base size (vEnd size v l) m
  | [], _, _ => rfl
  | d :: l, m, v => by
    show _ :: decs base size (passP size v d) (l ++ m) = _
    rw [decs_cat base size l m]; rfl
theorem decs_bit {base size : Nat} : ∀ (l : List Nat) (v : Nat), (∀ d ∈ l, d < 2) → ∀ p ∈ decs base size v l, p.2 < 2
  | [], _, _, p, h => by simp [decs] at h
  | d :: l, v, hl, p, h => by
    simp only [decs, List.mem_cons] at h
    rcases h with rfl | h
    · exact hl d (by simp)
    · exact decs_bit l _ (fun e he => hl e (by simp [he])) p h

end Go.Proofs.YtllhekkclhcdbaaDoor
