/- Segments' headers: what each kind allows; what a header says. -/
import Derived.Test.YtamonbkhpbdojaaDoorSf
import Derived.Test.YtamonbkhpbdojaaDoorSg
namespace Go.Proofs.YtamonbkhpbdojaaDoor
set_option maxRecDepth 100000
open Go.RowKit

def rLo (k : Nat) : Nat := if k = 2 ∨ k = 7 ∨ k = 0 then 0 else 1
def rHi (k : Nat) : Nat := if k = 7 ∨ k = 0 then 0 else 64
def rRef (k : Nat) : Bool := decide (k = 2 ∨ k = 3)
def rStay (k : Nat) : Bool := decide (k = 2)
def rData (k : Nat) : Nat := if k = 6 ∨ k = 7 ∨ k = 0 then 0 else 67108864
def ruleV (k : Nat) : List Value := [.int .i64 (rLo k : Int), .int .i64 (rHi k : Int), .bool (rRef k), .bool (rStay k), .int .i64 (rData k : Int)]
def rulesArr : Array Value := (ruleV 0 ++ ruleV 1 ++ ruleV 2 ++ ruleV 3 ++ ruleV 4 ++ ruleV 5 ++ ruleV 6 ++ ruleV 7).toArray

structure RulesAt (w : World) : Prop where
  blk : ∃ t x, w.heap[0]? = some (.cells rulesArr t x)
theorem RulesAt.lt {w : World} (h : RulesAt w) : 0 < w.heap.size := by
  obtain ⟨t, x, hb⟩ := h.blk
  exact lt_of_block hb
theorem RulesAt.kept {w w' : World} {S : Nat → Prop} (h : RulesAt w) (f : Fr S w w') (h0 : ¬ S 0) : RulesAt w' := by
  obtain ⟨t, x, hb⟩ := h.blk
  exact ⟨t, x, by rw [f.block 0 h.lt h0]; exact hb⟩
theorem RulesAt.cells {w : World} (h : RulesAt w) (k : Nat) (hk : k < 8) : w.cell? ⟨0, k * 5, none⟩ = some (.int .i64 (rLo k : Int)) ∧ w.cell? ⟨0, k * 5 + 1, none⟩ = some (.int .i64 (rHi k : Int)) ∧ w.cell? ⟨0, k * 5 + 2, none⟩ = some (.bool (rRef k)) ∧ w.cell? ⟨0, k * 5 + 3, none⟩ = some (.bool (rStay k)) ∧ w.cell? ⟨0, k * 5 + 4, none⟩ = some (.int .i64 (rData k : Int)) := by
  obtain ⟨t, x, hb⟩ := h.blk
  rcases (by omega : k = 0 ∨ k = 1 ∨ k = 2 ∨ k = 3 ∨ k = 4 ∨ k = 5 ∨ k = 6 ∨ k = 7) with rfl | rfl | rfl | rfl | rfl | rfl | rfl | rfl <;> simp [World.cell?, hb, rulesArr, ruleV, rLo, rHi, rRef, rStay, rData]

def bindE {α β : Type} [Inhabited β] (r : Nat × α) (f : α → Nat × β) : Nat × β := if r.1 = 0 then f r.2 else (r.1, default)
theorem bindE_ok {α β : Type} [Inhabited β] {r : Nat × α} {f : α → Nat × β} (h : r.1 = 0) : bindE r f = f r.2 := if_pos h
theorem bindE_no {α β : Type} [Inhabited β] {r : Nat × α} {f : α → Nat × β} (h : r.1 ≠ 0) : bindE r f = (r.1, default) := if_neg h

/-- A segment without its data. -/
structure Seg where
  num : Nat
  kind : Nat
  page : Nat
  refs : List Nat
  keep : List Bool
  stay : Bool
deriving Inhabited

def mostN (r : Bool) (n : Nat) : Nat := if r then n else 0
def stayS (r s : Bool) : Nat × Unit := if r || !s then (0, ()) else (161, ())
/-- What a header says that begins at a place: the error; the segment, how many bytes its data have, the place behind. -/
def segS (l : List Nat) (a : Nat) : Nat × Seg × Nat × Nat :=
  bindE (numS l a 0 32767) fun x1 => bindE (kindS l x1.2) fun x2 => bindE (numS l x2.2 (rLo x2.1) (rHi x2.1)) fun x3 =>
  bindE (numS l x3.2 0 (mostN (rRef x2.1) x1.1)) fun x4 => bindE (risS l (x1.1 - 1) x4.1 x4.2 0) fun x5 => bindE (flgS l x5.2 x4.1) fun x6 =>
  bindE (stayS (rStay x2.1) x6.2.1) fun _ => bindE (numS l x6.2.2 0 (rData x2.1)) fun x7 => (0, ⟨x1.1, x2.1, x3.1, x5.1, x6.1, x6.2.1⟩, x7.1, x7.2)

def SegP (w : World) (bs : Nat) (ao : Option Addr) (cap : Nat) (l : List Nat) (R : Nat × Seg × Nat × Nat) (e : Ending) (w' : World) : Prop :=
  Fr (fun k => k = bs) w w' ∧ ((R.1 = 0 ∧ ∃ vr vk, e = .returned (.tuple #[.agg #[.int .i64 (R.2.1.num : Int), .int .i64 (R.2.1.kind : Int), .int .i64 (R.2.1.page : Int), vr, vk, .bool R.2.1.stay, .slice none 0 0], .int .i64 (R.2.2.1 : Int)]) ∧ w'.ownsRow w.heap.size 3 1 vr R.2.1.refs.length (intCells R.2.1.refs) ∧ w'.ownsRow w.heap.size 4 1 vk R.2.1.keep.length (boolCells R.2.1.keep) ∧ SR w' bs ao cap l R.2.2.2) ∨ (R.1 ≠ 0 ∧ PanW R.1 e))
end Go.Proofs.YtamonbkhpbdojaaDoor
