/- 'BitsRoom', by contracts. -/
import Derived.Test.YtamonbkhpbdojaaDoorWakes
namespace Go.Proofs.YtamonbkhpbdojaaDoor
set_option maxRecDepth 100000
open Go.RowKit

/-- A slice of operations that can be read: kind, number, width. -/
def OpsAt (w : World) (ao : Option Addr) (n : Nat) (K : Nat → Int) (N : Nat → Nat) (D : Nat → Int) : Prop :=
  n ≤ 9223372036854775807 ∧ (0 < n → ∃ b off, ao = some ⟨b, off, none⟩ ∧ ∀ j, j < n → w.cell? ⟨b, off + j * 3, none⟩ = some (.int .i64 (K j)) ∧ w.cell? ⟨b, off + j * 3 + 1, none⟩ = some (.int .u64 (N j)) ∧ w.cell? ⟨b, off + j * 3 + 2, none⟩ = some (.int .i64 (D j))) ∧
  ∀ j, j < n → (-9223372036854775808 ≤ K j ∧ K j ≤ 9223372036854775807) ∧ N j < 18446744073709551616 ∧ (-9223372036854775808 ≤ D j ∧ D j ≤ 9223372036854775807)

theorem tmod_cases (i : Int) (n : Nat) (h : 0 < n) : (i.tmod n < 0 ∧ i.tmod n + n = i % n) ∨ (0 ≤ i.tmod n ∧ i.tmod n = i % n) := by
  have h1 := Int.emod_nonneg i (show (n : Int) ≠ 0 from by omega)
  have h2 := Int.emod_lt_of_pos i (show 0 < (n : Int) from by omega)
  have h3 := @Int.tmod_eq_emod i n
  split at h3
  · right; omega
  · left; rw [Int.natAbs_natCast] at h3; omega

/-- How many bits the writer at b has. -/
def lenAt (w : World) (b : Nat) : Nat := match w.cell? ⟨b, 1, none⟩ with
  | some (.int _ n) => n.toNat
  | _ => 0
theorem lenAt_of {w : World} {bw : Nat} {v : Value} {most : Nat} {bs : List Bool} (h : WAt w bw v most bs) : lenAt w bw = bs.length := by
  obtain ⟨c0, c1, c2, cf⟩ := cell_of_three h.blk
  unfold lenAt
  rw [c1]
  simp

end Go.Proofs.YtamonbkhpbdojaaDoor
