/- 'walk.head', 'joined'. -/
import Derived.Test.YtllhekkclhcdbaaDoorKTk
namespace Go.Proofs.YtllhekkclhcdbaaDoor
open Go.RowKit

theorem takeD_add (B : List Nat) (base size : Nat) : ∀ (k m : Nat) (s : De × Nat) (x : Nat), takeD B base size (m + k) s x = ((takeD B base size m s x).1 * 2 ^ k + (takeD B base size k (takeD B base size m s x).2 0).1, (takeD B base size k (takeD B base size m s x).2 0).2)
  | 0, m, s, x => by simp [takeD]
  | k + 1, m, s, x => by
    rw [← Nat.add_assoc, takeD_snoc, takeD_add B base size k m s x, takeD_snoc]
    unfold stepD
    dsimp only
    rw [Nat.pow_succ]
    congr 1
    rw [Nat.mul_add, ← Nat.mul_assoc, Nat.mul_comm 2 (takeD B base size m s x).1, Nat.mul_assoc, Nat.mul_comm 2 (2 ^ k)]
    omega

/-- How many bits have come behind i rows. -/
def hdN (i : Nat) : Nat := min i 5
theorem hdN_row (i : Nat) (hi : i < 6) : rowX i = hdN (i + 1) ∧ hdN i ≤ hdN (i + 1) ∧ hdN (i + 1) - hdN i ≤ 1 := by
  rcases (by omega : i = 0 ∨ i = 1 ∨ i = 2 ∨ i = 3 ∨ i = 4 ∨ i = 5) with rfl | rfl | rfl | rfl | rfl | rfl <;> decide

/-- Which row the head says: the first whose head it is. -/
def headK (B : List Nat) (base size : Nat) (s : De × Nat) : Nat :=
  if (takeD B base size 1 s 0).1 = 0 then 0 else if (takeD B base size 2 s 0).1 = 2 then 1 else if (takeD B base size 3 s 0).1 = 6 then 2 else if (takeD B base size 4 s 0).1 = 14 then 3 else if (takeD B base size 5 s 0).1 = 30 then 4 else 5
theorem headK_lt (B : List Nat) (base size : Nat) (s : De × Nat) : headK B base size s < 6 := by
  unfold headK
  repeat' split
  all_goals omega
theorem headK_at {B : List Nat} {base size : Nat} {s : De × Nat} {i : Nat} (hi : i < 6) (hno : ∀ j, j < i → (takeD B base size (hdN (j + 1)) s 0).1 ≠ rowH j) (hy : i = 5 ∨ (takeD B base size (hdN (i + 1)) s 0).1 = rowH i) : headK B base size s = i := by
  have n0 := hno 0
  have n1 := hno 1
  have n2 := hno 2
  have n3 := hno 3
  have n4 := hno 4
  simp only [hdN, rowH, Nat.zero_add, Nat.reduceAdd, Nat.reduceLeDiff, List.getD_cons_zero, List.getD_cons_succ, Nat.min_eq_left] at n0 n1 n2 n3 n4
  unfold headK
  rcases (by omega : i = 0 ∨ i = 1 ∨ i = 2 ∨ i = 3 ∨ i = 4 ∨ i = 5) with rfl | rfl | rfl | rfl | rfl | rfl
  · have hy' : (takeD B base size 1 s 0).1 = 0 := by rcases hy with e | e; omega; exact e
    rw [if_pos hy']
  · have hy' : (takeD B base size 2 s 0).1 = 2 := by rcases hy with e | e; omega; exact e
    rw [if_neg (n0 (by omega)), if_pos hy']
  · have hy' : (takeD B base size 3 s 0).1 = 6 := by rcases hy with e | e; omega; exact e
    rw [if_neg (n0 (by omega)), if_neg (n1 (by omega)), if_pos hy']
  · have hy' : (takeD B base size 4 s 0).1 = 14 := by rcases hy with e | e; omega; exact e
    rw [if_neg (n0 (by omega)), if_neg (n1 (by omega)), if_neg (n2 (by omega)), if_pos hy']
  · have hy' : (takeD B base size 5 s 0).1 = 30 := by rcases hy with e | e; omega; exact e
    rw [if_neg (n0 (by omega)), if_neg (n1 (by omega)), if_neg (n2 (by omega)), if_neg (n3 (by omega)), if_pos hy']
  · rw [if_neg (n0 (by omega)), if_neg (n1 (by omega)), if_neg (n2 (by omega)), if_neg (n3 (by omega)), if_neg (n4 (by omega))]

/-- What number a sign and an amount are. -/
def joinI (sign m : Nat) : Int := if 2147483648 < m then 0 else if sign = 0 then (m : Int) else -(m : Int)
def joinN (sign m : Nat) : Bool := if 2147483648 < m then false else if sign = 0 then false else decide (m = 0)
def joinE (m : Nat) : Int := if 2147483648 < m then 50 else 0

theorem two_cells {w : World} {b : Nat} {x0 x1 : Value} {t : TypeId} (h : w.heap[b]? = some (.cells #[x0, x1] t (0, 0))) : w.cell? ⟨b, 0, none⟩ = some x0 ∧ w.cell? ⟨b, 1, none⟩ = some x1 := by
  refine ⟨?_, ?_⟩ <;> simp [World.cell?, h]

set_option maxRecDepth 100000 in
set_option maxHeartbeats 2000000 in
theorem joined_at (w : World) (sign m : Nat) (hm : m < 18446744073709551616) :
    Calls Tryd.prog 73 #[.int .u64 (sign : Int), .int .u64 (m : Int)] w fun e w' => e = .returned (.tuple #[.agg #[.int .i64 (joinI sign m), .bool (joinN sign m)], .int .i64 (joinE m)]) ∧ Fr (fun _ => False) w w' := by
  by_cases h1 : 2147483648 < m
  · have hd : decide ((2147483648 : Int) < (m : Int)) = true := decide_eq_true (by omega)
    have Hv : Hid (joinI sign m = 0 ∧ joinN sign m = false ∧ joinE m = 50) := ⟨by unfold joinI; rw [if_pos h1], by unfold joinN; rw [if_pos h1], by unfold joinE; rw [if_pos h1]⟩
    clear h1 hm
    go_enter Tryd.func73, Tryd.ntmps73
    go_wp2_with fail
    obtain ⟨q0, q1⟩ := two_cells (heap_alloc_new w (.cells #[.int .i64 0, .bool false] 46))
    refine bodyPost_ret (v := .tuple #[.agg #[.int .i64 0, .bool false], .int .i64 50]) (by simp [results, Tryd.results73, go_sem, q0, q1]) rfl ⟨?_, (Fr.refl _ _).alloc _⟩
    rw [Hv.out.1, Hv.out.2.1, Hv.out.2.2]
  · have hd : decide ((2147483648 : Int) < (m : Int)) = false := decide_eq_false (by omega)
    have k1 : IntKind.i64.wrap (m : Int) = (m : Int) := by rw [IntKind.wrap_i64]; omega
    have k2 : IntKind.i64.wrap (-(m : Int)) = -(m : Int) := by rw [IntKind.wrap_i64]; omega
    by_cases h2 : sign = 0
    · have Hv : Hid (joinI sign m = (m : Int) ∧ joinN sign m = false ∧ joinE m = 0) := ⟨by unfold joinI; rw [if_neg h1, if_pos h2], by unfold joinN; rw [if_neg h1, if_pos h2], by unfold joinE; rw [if_neg h1]⟩
      have hd2 : ((sign : Int) == 0) = true := by simp [h2]
      have hd3 : decide ((sign : Int) = 0) = true := by simp [h2]
      have hd4 : decide (sign = 0) = true := by simp [h2]
      clear h1 hm h2
      go_enter Tryd.func73, Tryd.ntmps73
      go_wp2_with fail
      obtain ⟨q0, q1⟩ := two_cells (heap_alloc_new w (.cells #[.int .i64 (m : Int), .bool false] 46))
      refine bodyPost_ret (v := .tuple #[.agg #[.int .i64 (m : Int), .bool false], .int .i64 0]) (by simp [results, Tryd.results73, go_sem, q0, q1]) rfl ⟨?_, (Fr.refl _ _).alloc _⟩
      rw [Hv.out.1, Hv.out.2.1, Hv.out.2.2]
    · have hd2 : ((sign : Int) == 0) = false := by simp [h2]
      have hd3 : decide ((sign : Int) = 0) = false := by simp [h2]
      have hd4 : decide (sign = 0) = false := by simp [h2]
      by_cases h3 : m = 0
      · have Hv : Hid (joinI sign m = -(m : Int) ∧ joinN sign m = true ∧ joinE m = 0) := ⟨by unfold joinI; rw [if_neg h1, if_neg h2], by unfold joinN; rw [if_neg h1, if_neg h2, decide_eq_true h3], by unfold joinE; rw [if_neg h1]⟩
        have hd5 : ((m : Int) == 0) = true := by simp [h3]
        have hd6 : decide (m = 0) = true := by simp [h3]
        clear h1 hm h2 h3
        go_enter Tryd.func73, Tryd.ntmps73
        go_wp2_with fail
        obtain ⟨q0, q1⟩ := two_cells (heap_alloc_new w (.cells #[.int .i64 (-(m : Int)), .bool true] 46))
        refine bodyPost_ret (v := .tuple #[.agg #[.int .i64 (-(m : Int)), .bool true], .int .i64 0]) (by simp [results, Tryd.results73, go_sem, q0, q1]) rfl ⟨?_, (Fr.refl _ _).alloc _⟩
        rw [Hv.out.1, Hv.out.2.1, Hv.out.2.2]
      · have Hv : Hid (joinI sign m = -(m : Int) ∧ joinN sign m = false ∧ joinE m = 0) := ⟨by unfold joinI; rw [if_neg h1, if_neg h2], by unfold joinN; rw [if_neg h1, if_neg h2, decide_eq_false h3], by unfold joinE; rw [if_neg h1]⟩
        have hd5 : ((m : Int) == 0) = false := by simp [h3]
        have hd6 : decide (m = 0) = false := by simp [h3]
        clear h1 hm h2 h3
        go_enter Tryd.func73, Tryd.ntmps73
        go_wp2_with fail
        obtain ⟨q0, q1⟩ := two_cells (heap_alloc_new w (.cells #[.int .i64 (-(m : Int)), .bool false] 46))
        refine bodyPost_ret (v := .tuple #[.agg #[.int .i64 (-(m : Int)), .bool false], .int .i64 0]) (by simp [results, Tryd.results73, go_sem, q0, q1]) rfl ⟨?_, (Fr.refl _ _).alloc _⟩
        rw [Hv.out.1, Hv.out.2.1, Hv.out.2.2]

end Go.Proofs.YtllhekkclhcdbaaDoor
