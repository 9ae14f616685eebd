/- 'wakes'. -/
import Derived.Test.YtllhekkclhcdbaaDoorEq
namespace Go.Proofs.YtllhekkclhcdbaaDoor
open Go.RowKit

def wakeC : Nat → Co
  | 0 => newP 2
  | k + 1 => putP (wakeC k) ((k % 2 : Nat) : Int) (k / 3 % 2)
def wakeB : List Nat := flushP (wakeC 40).s
def wakeD : Nat → De
  | 0 => newD wakeB 2
  | k + 1 => getP wakeB (wakeD k) ((k % 2 : Nat) : Int)

theorem wakeC_ok : ∀ k, k ≤ 40 → Ook (wakeC k) ∧ (wakeC k).made = k
  | 0, _ => ⟨newP_ok (by decide) (by decide), rfl⟩
  | k + 1, h => by
    obtain ⟨h1, h2⟩ := wakeC_ok k (by omega)
    exact ⟨putP_ok h1 _ _ (by omega), by show (wakeC k).made + 1 = _; omega⟩
theorem wakeB_lt : ∀ y ∈ wakeB, y < 256 := by
  have h : wakeB.all (fun y => decide (y < 256)) = true := by decide +kernel
  intro y hy
  simpa using List.all_eq_true.1 h y hy
theorem wakeB_len : wakeB.length = 5 := by decide +kernel
theorem wakeG (k : Nat) (hk : k < 40) : getBit (wakeD k) ((k % 2 : Nat) : Int) = k / 3 % 2 := by
  have h : (List.range 40).all (fun k => getBit (wakeD k) ((k % 2 : Nat) : Int) == k / 3 % 2) = true := by decide +kernel
  simpa using List.all_eq_true.1 h k (List.mem_range.2 hk)
theorem wakeD_ok : ∀ k, k ≤ 40 → Eok wakeB (wakeD k) ∧ (wakeD k).made = k
  | 0, _ => ⟨newD_ok (by decide) (by decide) wakeB_lt, rfl⟩
  | k + 1, h => by
    obtain ⟨h1, h2⟩ := wakeD_ok k (by omega)
    exact ⟨getP_ok h1 _ (by omega), by show (wakeD k).made + 1 = _; omega⟩

/-- Steps of a coder whose blocks are new. -/
theorem CStep.fresh {w w1 w2 : World} {bc gc gb gb' : Nat} {T : Nat → Prop} (f : Fr T w w1) (h : CStep bc gc gb gb' w1 w2) (s : w.heap.size ≤ bc ∧ w.heap.size ≤ gc ∧ w.heap.size ≤ gb) : Fr T w w2 ∧ w.heap.size ≤ gb' := by
  have hs := f.size
  refine ⟨f.trans h.fr (fun i hi e => by omega), ?_⟩
  rcases h.row with e | e <;> omega
theorem DStep.fresh {w w1 w2 : World} {bd gc : Nat} {T : Nat → Prop} (f : Fr T w w1) (h : DStep bd gc w1 w2) (s : w.heap.size ≤ bd ∧ w.heap.size ≤ gc) : Fr T w w2 :=
  f.trans h (fun i hi e => by omega)

end Go.Proofs.YtllhekkclhcdbaaDoor
