/- Things that are handed in: a script's row of Ops; 'Within'. -/
import Derived.Test.YtejempbgpkeheaaPw
import Derived.Test.YtejempbgpkeheaaLe
import Derived.Test.YtejempbgpkeheaaLg
namespace Go.Proofs.Ytejempbgpkeheaa
open Go.RowKit

/-- One thing: its kind, a place, an operation, a bitmap. -/
structure Th where
  k : Int
  x : Int
  y : Int
  op : Int
  a : Int
  b : Int
  v : Value
  l : List Nat
/-- What holds of it. -/
structure ThOK (w : World) (t : Th) : Prop where
  hk : I64 t.k
  hx : I64 t.x
  hy : I64 t.y
  ho : I64 t.op
  ha : I64 t.a
  hb : I64 t.b
  hv : Seen w t.v t.l
  hc : CapOK t.v
  hn : NilOK t.v
  hlt : ∀ j : Nat, t.l[j]?.getD 0 < 18446744073709551616
theorem ThOK.kept {w w' : World} {t : Th} (h : ThOK w t) (f : Fr (fun _ => False) w w') : ThOK w' t := ⟨h.hk, h.hx, h.hy, h.ho, h.ha, h.hb, h.hv.kept f, h.hc, h.hn, h.hlt⟩
def Th.cells (t : Th) : List Value := [.int .i64 t.k, .int .i64 t.x, .int .i64 t.y, .int .i64 t.op, .int .i64 t.a, .int .i64 t.b, t.v]
/-- A row of them. -/
structure ThsAt (w : World) (ao : Option Addr) (n : Nat) (A : Nat → Th) : Prop where
  len : n ≤ 9223372036854775807
  cells : 0 < n → ∃ b off, ao = some ⟨b, off, none⟩ ∧ ∀ j, j < n → w.cell? ⟨b, off + j * 7 + 0, none⟩ = some (.int .i64 (A j).k) ∧ w.cell? ⟨b, off + j * 7 + 1, none⟩ = some (.int .i64 (A j).x) ∧ w.cell? ⟨b, off + j * 7 + 2, none⟩ = some (.int .i64 (A j).y) ∧ w.cell? ⟨b, off + j * 7 + 3, none⟩ = some (.int .i64 (A j).op) ∧ w.cell? ⟨b, off + j * 7 + 4, none⟩ = some (.int .i64 (A j).a) ∧ w.cell? ⟨b, off + j * 7 + 5, none⟩ = some (.int .i64 (A j).b) ∧ w.cell? ⟨b, off + j * 7 + 6, none⟩ = some (A j).v
  ok : ∀ j, j < n → ThOK w (A j)
theorem ThsAt.kept {w w' : World} {ao : Option Addr} {n : Nat} {A : Nat → Th} (h : ThsAt w ao n A) (f : Fr (fun _ => False) w w') : ThsAt w' ao n A := by
  refine ⟨h.len, fun hn => ?_, fun j hj => (h.ok j hj).kept f⟩
  obtain ⟨b, off, e, hc⟩ := h.cells hn
  refine ⟨b, off, e, fun j hj => ?_⟩
  obtain ⟨a0, a1, a2, a3, a4, a5, a6⟩ := hc j hj
  have hb := seen_lt a0
  refine ⟨?_, ?_, ?_, ?_, ?_, ?_, ?_⟩ <;> rw [f.cellEq hb (fun h => h)] <;> assumption

set_option maxRecDepth 100000 in
set_option maxHeartbeats 1000000 in
theorem within_any (i : Int) (n : Nat) (w : World) (hi : I64 i) (h1 : 1 ≤ n) (h2 : n ≤ 1048576) :
    Calls Try.prog 22 #[.int .i64 i, .int .i64 n] w fun e w' => e = .returned (.int .i64 (i % (n : Int))) ∧ w' = w := by
  obtain ⟨hi1, hi2⟩ := hi
  have hpos : 0 < (n : Int) := by omega
  have hm1 := Int.emod_nonneg i (show (n : Int) ≠ 0 by omega)
  have hm2 := Int.emod_lt_of_pos i hpos
  have ht := Int.mul_tdiv_add_tmod i n
  have hb : -(n : Int) < i.tmod n ∧ i.tmod n < n := by
    rcases Int.le_total 0 i with h | h
    · rw [Int.tmod_eq_emod_of_nonneg h]; omega
    · have e : i.tmod n = -((-i) % n) := by
        rw [← Int.tmod_eq_emod_of_nonneg (show 0 ≤ -i by omega), Int.neg_tmod]; omega
      have a1 := Int.emod_nonneg (-i) (show (n : Int) ≠ 0 by omega)
      have a2 := Int.emod_lt_of_pos (-i) hpos
      omega
  have key : ∀ r : Int, 0 ≤ r → r < n → (∃ q : Int, i = n * q + r) → i % n = r := by
    rintro r h0 h1 ⟨q, rfl⟩
    rw [Int.mul_add_emod_self_left, Int.emod_eq_of_lt h0 h1]
  by_cases h0 : Int.tmod i n < 0
  · have e := key (i.tmod n + n) (by omega) (by omega) ⟨i.tdiv n - 1, by rw [Int.mul_sub]; omega⟩
    rw [e]
    clear e key ht hm1 hm2
    have hd : decide (i.tmod n < 0) = true := decide_eq_true h0
    go_enter Try.func22, Try.ntmps22
    go_wp2
    all_goals first
      | (go_ret; exact ⟨congrArg (fun x => Ending.returned (Value.int .i64 x)) (by first | rfl | omega | (unfold wrap64; omega)), rfl⟩)
      | (exfalso; omega)
  · have e := key (i.tmod n) (by omega) (by omega) ⟨i.tdiv n, by omega⟩
    rw [e]
    clear e key ht hm1 hm2
    have hd : decide (i.tmod n < 0) = false := decide_eq_false h0
    go_enter Try.func22, Try.ntmps22
    go_wp2
    all_goals first
      | (go_ret; exact ⟨rfl, rfl⟩)
      | (exfalso; omega)

end Go.Proofs.Ytejempbgpkeheaa
