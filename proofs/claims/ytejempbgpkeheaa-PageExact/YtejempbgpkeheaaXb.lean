/- 'PageExact': the memory of both pages while the script runs. -/
import Derived.Test.YtejempbgpkeheaaXa
import Derived.Test.YtejempbgpkeheaaXo
import Derived.Test.YtejempbgpkeheaaRn
import Derived.Test.YtejempbgpkeheaaPw
import Derived.Test.YtejempbgpkeheaaOp
import Derived.Test.YtejempbgpkeheaaPn
namespace Go.Proofs.Ytejempbgpkeheaa
set_option maxRecDepth 100000
open Go.RowKit

/-- The script's block sc, the program's page (first row not ended n, ended dn, pixels P), the document's page (n2, dn2, P2); all their blocks lie below M. -/
structure EX (w0 w : World) (M sc p b g cap r gr N W H d s : Nat) (so du : Value) (n : Nat) (dn : Bool) (P : Nat → Nat → Bool) (n2 : Nat) (dn2 : Bool) (P2 : Nat → Nat → Bool) : Prop where
  scb : w.heap[sc]? = some (.cells #[.int .i64 W, .int .i64 H, .int .i64 d, .int .i64 s, so, du] 27 (0, 0))
  qx : QX w p b g cap W H d s n dn P
  rx : RpAt w r gr N W H d s n2 dn2 P2
  fx : Fr (fun _ => False) w0 w
  mw : M ≤ w.heap.size
  lo : w0.heap.size ≤ M ∧ w0.heap.size ≤ p ∧ w0.heap.size ≤ g ∧ w0.heap.size ≤ r ∧ w0.heap.size ≤ gr
  lt : sc < M ∧ p < M ∧ b < M ∧ g < M ∧ r < M ∧ gr < M
  s1 : sc ≠ p ∧ sc ≠ g ∧ sc ≠ r ∧ sc ≠ gr
  s2 : p ≠ r ∧ p ≠ gr ∧ b ≠ r ∧ b ≠ gr ∧ g ≠ r ∧ g ≠ gr
  s3 : b ≠ p
section
variable {w0 w w' : World} {M sc p b g cap r gr N W H d s n n2 n' : Nat} {so du : Value} {dn dn2 dn' : Bool} {P P2 P' : Nat → Nat → Bool}
theorem EX.same (h : EX w0 w M sc p b g cap r gr N W H d s so du n dn P n2 dn2 P2) (f : Fr (fun _ => False) w w') : EX w0 w' M sc p b g cap r gr N W H d s so du n dn P n2 dn2 P2 :=
  ⟨blk_kept h.scb f (fun h => h), h.qx.same f, h.rx.same f, h.fx.trans f (fun _ _ h => h), Nat.le_trans h.mw f.size, h.lo, h.lt, h.s1, h.s2, h.s3⟩
theorem EX.new {gx : Nat} (h : EX w0 w M sc p b g cap r gr N W H d s so du n dn P n2 dn2 P2) (f : Fr (fun k => k = gx) w w') (hg : M ≤ gx) : EX w0 w' M sc p b g cap r gr N W H d s so du n dn P n2 dn2 P2 := by
  have l := h.lt
  have o := h.lo
  exact ⟨blk_kept h.scb f (by omega), h.qx.kept f (by omega) (by omega) (by omega), h.rx.kept f (by omega) (by omega), h.fx.trans f (fun i hi e => by omega), Nat.le_trans h.mw f.size, h.lo, h.lt, h.s1, h.s2, h.s3⟩
theorem EX.stepq {S : Nat → Prop} (h : EX w0 w M sc p b g cap r gr N W H d s so du n dn P n2 dn2 P2) (hq : QX w' p b g cap W H d s n' dn' P') (f : Fr S w w') (hS : ∀ k, S k → k = p ∨ k = g) : EX w0 w' M sc p b g cap r gr N W H d s so du n' dn' P' n2 dn2 P2 := by
  have a := h.s1
  have c := h.s2
  have o := h.lo
  exact ⟨blk_kept h.scb f (fun e => by have := hS _ e; omega), hq, h.rx.kept f (fun e => by have := hS _ e; omega) (fun e => by have := hS _ e; omega), h.fx.trans f (fun i hi e => by have := hS _ e; omega), Nat.le_trans h.mw f.size, h.lo, h.lt, h.s1, h.s2, h.s3⟩
theorem EX.stepr {S : Nat → Prop} (h : EX w0 w M sc p b g cap r gr N W H d s so du n dn P n2 dn2 P2) (hr : RpAt w' r gr N W H d s n' dn' P') (f : Fr S w w') (hS : ∀ k, S k → k = r ∨ k = gr) : EX w0 w' M sc p b g cap r gr N W H d s so du n dn P n' dn' P' := by
  have a := h.s1
  have c := h.s2
  have o := h.lo
  exact ⟨blk_kept h.scb f (fun e => by have := hS _ e; omega), h.qx.kept f (fun e => by have := hS _ e; omega) (fun e => by have := hS _ e; omega) (fun e => by have := hS _ e; omega), hr, h.fx.trans f (fun i hi e => by have := hS _ e; omega), Nat.le_trans h.mw f.size, h.lo, h.lt, h.s1, h.s2, h.s3⟩
theorem EX.cells (h : EX w0 w M sc p b g cap r gr N W H d s so du n dn P n2 dn2 P2) : w.cell? ⟨sc, 0, none⟩ = some (.int .i64 W) ∧ w.cell? ⟨sc, 1, none⟩ = some (.int .i64 H) ∧ w.cell? ⟨sc, 2, none⟩ = some (.int .i64 d) ∧ w.cell? ⟨sc, 3, none⟩ = some (.int .i64 s) ∧ w.cell? ⟨sc, 4, none⟩ = some so ∧ w.cell? ⟨sc, 5, none⟩ = some du := by
  obtain ⟨c0, c1, c2, c3, c4, c5, _⟩ := cell_of_six h.scb
  exact ⟨c0, c1, c2, c3, c4, c5⟩
theorem EX.rcells (h : EX w0 w M sc p b g cap r gr N W H d s so du n dn P n2 dn2 P2) : w.cell? ⟨r, 0, none⟩ = some (.int .i64 W) ∧ w.cell? ⟨r, 1, none⟩ = some (.int .i64 H) ∧ w.cell? ⟨r, 3, none⟩ = some (.int .i64 s) ∧ w.cell? ⟨r, 7, none⟩ = some (.int .i64 n2) ∧ w.cell? ⟨r, 8, none⟩ = some (.bool dn2) := by
  obtain ⟨c0, c1, c2, c3, c4, c5, c6, c7, c8, _⟩ := cell_of_nine h.rx.blk
  exact ⟨c0, c1, c3, c7, c8⟩
theorem EX.bounds (h : EX w0 w M sc p b g cap r gr N W H d s so du n dn P n2 dn2 P2) : 1 ≤ W ∧ 1 ≤ H ∧ W * H ≤ 1048576 ∧ W ≤ 1048576 ∧ H ≤ 1048576 ∧ n2 ≤ H ∧ s ≤ 1048576 ∧ N = H * stride W := by
  obtain ⟨f1, f2, _⟩ := size_facts h.rx.w1 h.rx.h1 h.rx.a1
  exact ⟨h.rx.w1, h.rx.h1, h.rx.a1, f1, f2, h.rx.nl, h.rx.sl, h.rx.row.1⟩
end
end Go.Proofs.Ytejempbgpkeheaa
