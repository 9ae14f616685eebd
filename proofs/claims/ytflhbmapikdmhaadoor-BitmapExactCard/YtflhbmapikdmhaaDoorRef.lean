/- The document's own answer: 'Within', 'Do'. -/
import Derived.Test.YtflhbmapikdmhaaDoorBlits
namespace Go.Proofs.YtflhbmapikdmhaaDoor
open Go.RowKit

set_option maxRecDepth 100000 in
set_option maxHeartbeats 1000000 in
theorem within_any (i : Int) (n : Nat) (w : World) (hi : -9223372036854775808 ≤ i ∧ i ≤ 9223372036854775807) (h1 : 1 ≤ n) (h2 : n ≤ 1048576) :
    Calls Tryd.prog 5 #[.int .i64 i, .int .i64 n] w fun e w' => e = .returned (.int .i64 (i % (n : Int))) ∧ w' = w := by
  have hpos : 0 < (n : Int) := by omega
  have hm1 := Int.emod_nonneg i (show (n : Int) ≠ 0 by omega)
  have hm2 := Int.emod_lt_of_pos i hpos
  have ht := Int.mul_tdiv_add_tmod i n
  have hb : -(n : Int) < i.tmod n ∧ i.tmod n < n := by
    rcases Int.le_total 0 i with h | h
    · rw [Int.tmod_eq_emod_of_nonneg h]; omega
    · have e : i.tmod n = -((-i) % n) := by
        rw [← Int.tmod_eq_emod_of_nonneg (show 0 ≤ -i by omega), Int.neg_tmod]; omega
      have a1 := Int.emod_nonneg (-i) (show (n : Int) ≠ 0 by omega)
      have a2 := Int.emod_lt_of_pos (-i) hpos
      omega
  have key : ∀ r : Int, 0 ≤ r → r < n → (∃ q : Int, i = n * q + r) → i % n = r := by
    rintro r h0 h1 ⟨q, rfl⟩
    rw [Int.mul_add_emod_self_left, Int.emod_eq_of_lt h0 h1]
  by_cases h0 : Int.tmod i n < 0
  · have e := key (i.tmod n + n) (by omega) (by omega) ⟨i.tdiv n - 1, by rw [Int.mul_sub]; omega⟩
    rw [e]
    clear e key ht hm1 hm2
    have hd : decide (i.tmod n < 0) = true := decide_eq_true h0
    go_enter Tryd.func5, Tryd.ntmps5
    go_wp2
    all_goals first
      | (go_ret; exact ⟨congrArg (fun x => Ending.returned (Value.int .i64 x)) (by first | rfl | omega | (unfold wrap64; omega)), rfl⟩)
      | (exfalso; omega)
  · have e := key (i.tmod n) (by omega) (by omega) ⟨i.tdiv n, by omega⟩
    rw [e]
    clear e key ht hm1 hm2
    have hd : decide (i.tmod n < 0) = false := decide_eq_false h0
    go_enter Tryd.func5, Tryd.ntmps5
    go_wp2
    all_goals first
      | (go_ret; exact ⟨rfl, rfl⟩)
      | (exfalso; omega)

set_option maxRecDepth 100000 in
set_option maxHeartbeats 1000000 in
theorem do_any (op : Nat) (d s : Bool) (w : World) (h : op ≤ 4) :
    Calls Tryd.prog 42 #[.int .i64 op, .int .i64 (d.toNat : Nat), .int .i64 (s.toNat : Nat)] w fun e w' => e = .returned (.int .i64 ((opB op d s).toNat : Nat)) ∧ w' = w := by
  rcases (show op = 0 ∨ op = 1 ∨ op = 2 ∨ op = 3 ∨ op = 4 from by omega) with rfl | rfl | rfl | rfl | rfl <;> cases d <;> cases s
  all_goals
    go_enter Tryd.func42, Tryd.ntmps42
    go_wp2
    go_ret
    exact ⟨congrArg (fun x => Ending.returned (Value.int .i64 x)) (by decide +kernel), rfl⟩

end Go.Proofs.YtflhbmapikdmhaaDoor
