/- 'highestFirst$1': the iterator over the bits of a word. -/
import Derived.RangeFuncNested
import Derived.RangeFuncBound
import Derived.RangeFuncCalls
import Derived.RangeFuncLeaves
import Derived.Shelf.Abstract
import Derived.Shelf.RegionOpen
import Derived.WalkKit
import Derived.OwnWalkIn
import Derived.TacticsInMore
import Derived.LoopNIn
import Derived.LoopIn
import Derived.Test.YtllhekkclhcdbaaDoorProg
import Derived.Test.YtllhekkclhcdbaaDoorKWhB
namespace Go.Proofs.YtllhekkclhcdbaaDoor
open Go.RowKit Go.Shelf
attribute [local go_sem] Oper.semAt_some

abbrev Bit := { d : Nat // d < 2 }
def bitV (d : Bit) : Array Value := #[.int .i64 (d.1 : Int)]
def nats (l : List Bit) : List Nat := l.map (·.1)

/-- The two boxes are as they were. -/
structure Kb (bw bd : Nat) (W W' : World) : Prop where
  a : ∀ v, W.cell? ⟨bw, 0, none⟩ = some v → W'.cell? ⟨bw, 0, none⟩ = some v
  b : ∀ v, W.cell? ⟨bd, 0, none⟩ = some v → W'.cell? ⟨bd, 0, none⟩ = some v
theorem Kb.trans {bw bd : Nat} {A B C : World} (h : Kb bw bd A B) (k : Kb bw bd B C) : Kb bw bd A C := ⟨fun v e => k.a v (h.a v e), fun v e => k.b v (h.b v e)⟩
theorem Kb.putObj {bw bd : Nat} (W : World) (l : Nat) (o o' : Obj) (h : W.heap[l]? = some o) (ho : o.isCells = false) : Kb bw bd W (W.putObj l o') :=
  ⟨fun _ e => cell_kept e (grownBy_putObj' _ l o') (fun r e => by cases e; exact ⟨_, h, ho⟩), fun _ e => cell_kept e (grownBy_putObj' _ l o') (fun r e => by cases e; exact ⟨_, h, ho⟩)⟩

theorem bit_shr (word k : Nat) (hw : word < 18446744073709551616) : bits BinOp.and IntKind.u64 ((word : Int) / 2 ^ k) 1 = ((word / 2 ^ k % 2 : Nat) : Int) := by
  have l1 : word / 2 ^ k < 18446744073709551616 := Nat.lt_of_le_of_lt (Nat.div_le_self _ _) hw
  have h2 : ((word : Int) / 2 ^ k) = ((word / 2 ^ k : Nat) : Int) := by push_cast; rfl
  rw [h2, ← Nat.and_one_is_mod]
  exact u64_and_nat _ 1 l1 (by omega)

theorem seq_in (F : Fence) (n : Nat) (h64 : F.fn 64) (hro : F.round = none) (hn : 1 ≤ n) (l bw bd : Nat) (word width : Nat) (hword : word < 18446744073709551616) (hwidth : width ≤ 64) (J Jx : List Bit → World → Prop)
    (hY : ∀ pre x W1, J pre W1 → pre.length < width → YieldAt F (n - 1) Tryd.prog l (bitV x) W1 fun e W' =>
      (e = .returned (.bool true) ∧ J (pre ++ [x]) W' ∧ Kb bw bd W1 W') ∨ (e = .returned (.bool false) ∧ Jx (pre ++ [x]) W'))
    (W : World) (hbw : W.cell? ⟨bw, 0, none⟩ = some (.int .i64 (width : Int))) (hbd : W.cell? ⟨bd, 0, none⟩ = some (.int .u64 (word : Int))) (h0 : J [] W) :
    CallsIn F n Tryd.prog 64 #[.func (.yield l) #[] #[], .pointer (some ⟨bw, 0, none⟩), .pointer (some ⟨bd, 0, none⟩)] W fun e W' => (∃ v, e = .returned v) ∧
      ((∃ ys, nats ys = hiBits word width ∧ J ys W') ∨ (∃ pre, True ∧ Jx pre W')) := by
  refine callsIn_of_wp Tryd.func64 rfl h64 ?_ hro
  simp only [Tryd.ntmps64, List.size_toArray, List.length_cons, List.length_nil, Nat.reduceAdd, Nat.reduceSub, Array.replicate_succ, Array.replicate_zero, List.push_toArray, List.append_toArray, List.nil_append, List.cons_append]
  have h1 : IntKind.i64.wrap ((width : Int) - 1) = (width : Int) - 1 := by
    rw [IntKind.wrap_i64]; omega
  gi_wp2
  gi_loopw [4] (fun p wr => ∃ (pre : List Bit) (k : Nat), p = .int .i64 ((k : Int) - 1) ∧ pre.length + k = width ∧ nats pre ++ hiBits word k = hiBits word width ∧ J pre wr ∧ wr.cell? ⟨bw, 0, none⟩ = some (.int .i64 (width : Int)) ∧ wr.cell? ⟨bd, 0, none⟩ = some (.int .u64 (word : Int)))
    (fun p wr => (intOf p + 1).toNat)
  case atStart =>
    exact ⟨[], width, rfl, by simp, by simp [nats], h0, hbw, hbd⟩
  case round =>
    obtain ⟨pre, k, rfl, hlen, hx, hJs, hw1, hd1⟩ := hrel
    cases k with
    | zero =>
      gi_wp2
      go_end0
      exact ⟨⟨_, rfl⟩, .inl ⟨pre, by simpa [hiBits] using hx, hJs⟩⟩
    | succ k =>
      obtain ⟨fn, tmps, assign, body, hy, hR⟩ := hY pre ⟨word / 2 ^ k % 2, Nat.mod_lt _ (by decide)⟩ wr hJs (by omega)
      have e1 : ((k + 1 : Nat) : Int) - 1 = (k : Int) := by omega
      have e2 : IntKind.i64.wrap ((k : Int) - 1) = (k : Int) - 1 := by rw [IntKind.wrap_i64]; omega
      have e3 := bit_shr word k hword
      obtain ⟨d, hd⟩ : ∃ d, word / 2 ^ k % 2 = d := ⟨_, rfl⟩
      have hd2 : d < 2 := by rw [← hd]; exact Nat.mod_lt _ (by decide)
      have e4 : IntKind.i64.wrap (d : Int) = (d : Int) := by rw [IntKind.wrap_i64]; omega
      simp only [hd] at e3 hy hR
      dsimp only [bitV] at hy
      rw [e1]
      gi_wp2
      refine hR.mono ?_
      rintro e W3 (⟨rfl, hJ3, hk3⟩ | ⟨rfl, hJx3⟩)
      · have a1 := hk3.a _ hw1
        have b1 := hk3.b _ hd1
        gi_wp2
        go_roundw
        case rel => exact ⟨pre ++ [⟨d, hd2⟩], k, rfl, by simp; omega, by rw [← hx]; simp [nats, hiBits, hd], hJ3, a1, b1⟩
        case measure => simp [intOf]
      · gi_wp2
        refine bodyPost_ret (results_none rfl _ _ _) rfl ?_
        exact ⟨⟨_, rfl⟩, .inr ⟨_, trivial, hJx3⟩⟩

/-- The iterator over the bits of a word, for every loop's body that keeps its two boxes. -/
theorem seq_stops (F : Fence) (n : Nat) (h64 : F.fn 64) (hro : F.round = none) (hn : 1 ≤ n) (bw bd : Nat) (word width : Nat) (hword : word < 18446744073709551616) (hwidth : width ≤ 64)
    (w : World) (hbw : w.cell? ⟨bw, 0, none⟩ = some (.int .i64 (width : Int))) (hbd : w.cell? ⟨bd, 0, none⟩ = some (.int .u64 (word : Int))) :
    SeqStopsK F n Tryd.prog 64 #[.pointer (some ⟨bw, 0, none⟩), .pointer (some ⟨bd, 0, none⟩)] bitV (Kb bw bd) (fun xs => nats xs = hiBits word width) (fun _ => True) width w :=
  fun l J Jx W hW _ _ hY h0 =>
    seq_in F n h64 hro hn l bw bd word width hword hwidth J Jx hY W ((hW.cell (p := ⟨bw, 0, none⟩) (World.block_lt_of_cell? w _ hbw)).trans hbw) ((hW.cell (p := ⟨bd, 0, none⟩) (World.block_lt_of_cell? w _ hbd)).trans hbd) h0

end Go.Proofs.YtllhekkclhcdbaaDoor
