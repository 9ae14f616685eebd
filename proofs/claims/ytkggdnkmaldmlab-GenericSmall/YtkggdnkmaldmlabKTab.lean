/- The table of contexts: which one is meant, whether it is full; 'Within'; 'isTable', 'newTable', 'Contexts'. -/
import Derived.Test.YtkggdnkmaldmlabK8
namespace Go.Proofs.Ytkggdnkmaldmlab
open Go.RowKit

theorem tmod_bd (i : Int) (n : Nat) (h1 : 1 ≤ n) : -(n : Int) < i.tmod n ∧ i.tmod n < n := by
  have hpos : 0 < (n : Int) := by omega
  rcases Int.le_total 0 i with h | h
  · have a1 := Int.emod_nonneg i (show (n : Int) ≠ 0 by omega)
    have a2 := Int.emod_lt_of_pos i hpos
    rw [Int.tmod_eq_emod_of_nonneg h]; omega
  · have e : i.tmod n = -((-i) % n) := by
      rw [← Int.tmod_eq_emod_of_nonneg (show 0 ≤ -i by omega), Int.neg_tmod]; omega
    have a1 := Int.emod_nonneg (-i) (show (n : Int) ≠ 0 by omega)
    have a2 := Int.emod_lt_of_pos (-i) hpos
    omega
theorem emod_key (i : Int) (n : Nat) (r : Int) (h0 : 0 ≤ r) (h1 : r < n) (h : ∃ q : Int, i = n * q + r) : i % (n : Int) = r := by
  obtain ⟨q, rfl⟩ := h
  rw [Int.mul_add_emod_self_left, Int.emod_eq_of_lt h0 h1]
theorem emod_tneg (i : Int) (n : Nat) (h1 : 1 ≤ n) (h : i.tmod n < 0) : i % (n : Int) = i.tmod n + n := by
  have hb := tmod_bd i n h1
  have ht := Int.mul_tdiv_add_tmod i n
  exact emod_key i n _ (by omega) (by omega) ⟨i.tdiv n - 1, by rw [Int.mul_sub]; omega⟩
theorem emod_tpos (i : Int) (n : Nat) (h1 : 1 ≤ n) (h : ¬ i.tmod n < 0) : i % (n : Int) = i.tmod n := by
  have hb := tmod_bd i n h1
  have ht := Int.mul_tdiv_add_tmod i n
  exact emod_key i n _ (by omega) (by omega) ⟨i.tdiv n, by omega⟩

set_option maxRecDepth 100000 in
set_option maxHeartbeats 1000000 in
theorem within_p (i : Int) (n : Nat) (w : World) (_ : -9223372036854775808 ≤ i ∧ i ≤ 9223372036854775807) (h1 : 1 ≤ n) (h2 : n ≤ 1048576) :
    Calls Try.prog 13 #[.int .i64 i, .int .i64 n] w fun e w' => e = .returned (.int .i64 (placeOf i n : Nat)) ∧ w' = w := by
  have hpos : 0 < (n : Int) := by omega
  have hp : ((placeOf i n : Nat) : Int) = i % (n : Int) := by
    have := Int.emod_nonneg i (show (n : Int) ≠ 0 by omega)
    unfold placeOf; omega
  have hb := tmod_bd i n h1
  rw [hp]
  by_cases h0 : Int.tmod i n < 0
  · rw [emod_tneg i n h1 h0]
    clear hp
    have hd : decide (i.tmod n < 0) = true := decide_eq_true h0
    have hn0 : (n : Int) ≠ 0 := by omega
    have hn1 : ((n : Int) == 0) = false := by rw [beq_eq_false_iff_ne]; omega
    go_enter Try.func13, Try.ntmps13
    go_wp2
    all_goals first
      | (go_ret; exact ⟨congrArg (fun x => Ending.returned (Value.int .i64 x)) (by first | rfl | omega | (unfold wrap64; omega)), rfl⟩)
      | (exfalso; omega)
  · rw [emod_tpos i n h1 h0]
    clear hp
    have hd : decide (i.tmod n < 0) = false := decide_eq_false h0
    have hn0 : (n : Int) ≠ 0 := by omega
    have hn1 : ((n : Int) == 0) = false := by rw [beq_eq_false_iff_ne]; omega
    go_enter Try.func13, Try.ntmps13
    go_wp2
    all_goals first
      | (go_ret; exact ⟨rfl, rfl⟩)
      | (exfalso; omega)

set_option maxRecDepth 100000 in
set_option maxHeartbeats 1000000 in
theorem isFull_at (w : World) (bc made : Nat) (h1 : w.cell? ⟨bc, 1, none⟩ = some (.int .i64 (made : Nat))) (bb : Bool) (hb : ((made : Int) == 16777216) = bb) :
    Calls Try.prog 76 #[.pointer (some ⟨bc, 0, none⟩)] w fun e w' => e = .returned (.bool bb) ∧ w' = w := by
  go_enter Try.func76, Try.ntmps76
  go_wp2_with fail
  go_ret
  exact ⟨rfl, rfl⟩

set_option maxRecDepth 100000 in
set_option maxHeartbeats 1000000 in
theorem next_at (w : World) (bc gc cc n made : Nat) (i : Int) (_ : -9223372036854775808 ≤ i ∧ i ≤ 9223372036854775807) (h1 : 1 ≤ n) (h2 : n ≤ 131072) (hm : made < 16777216)
    (e0 : w.cell? ⟨bc, 0, none⟩ = some (.slice (some ⟨gc, 0, none⟩) n cc)) (e1 : w.cell? ⟨bc, 1, none⟩ = some (.int .i64 (made : Nat))) (ef : w.frozen? ⟨bc, 1, none⟩ = false) :
    Calls Try.prog 78 #[.pointer (some ⟨bc, 0, none⟩), .int .i64 i] w fun e w' => e = .returned (.pointer (some ⟨gc, placeOf i n, none⟩)) ∧ w' = w.setCell ⟨bc, 1, none⟩ (.int .i64 ((made + 1 : Nat) : Int)) := by
  have hpos : 0 < (n : Int) := by omega
  have hp : ((placeOf i n : Nat) : Int) = i % (n : Int) := by
    have := Int.emod_nonneg i (show (n : Int) ≠ 0 by omega)
    unfold placeOf; omega
  have hb := tmod_bd i n h1
  obtain ⟨k, HK⟩ : ∃ k, Hid (k = placeOf i n) := ⟨_, rfl⟩
  rw [← HK.out] at hp ⊢
  by_cases h0 : Int.tmod i n < 0
  · rw [emod_tneg i n h1 h0] at hp
    have hd : decide (i.tmod n < 0) = true := decide_eq_true h0
    have hk : i.tmod n + n = (k : Int) := hp.symm
    have hkn : k < n := by omega
    have hn0 : (n : Int) ≠ 0 := by omega
    have hn1 : ((n : Int) == 0) = false := by rw [beq_eq_false_iff_ne]; omega
    clear hp
    go_enter Try.func78, Try.ntmps78
    go_wp2
    all_goals first
      | (go_ret; exact ⟨rfl, rfl⟩)
      | (exfalso; omega)
  · rw [emod_tpos i n h1 h0] at hp
    have hd : decide (i.tmod n < 0) = false := decide_eq_false h0
    have hk : i.tmod n = (k : Int) := hp.symm
    have hkn : k < n := by omega
    have hn0 : (n : Int) ≠ 0 := by omega
    have hn1 : ((n : Int) == 0) = false := by rw [beq_eq_false_iff_ne]; omega
    clear hp
    go_enter Try.func78, Try.ntmps78
    go_wp2
    all_goals first
      | (go_ret; exact ⟨rfl, rfl⟩)
      | (exfalso; omega)

set_option maxRecDepth 100000 in
set_option maxHeartbeats 1000000 in
theorem contexts_at (w : World) (bc gc cc n : Nat) (e0 : w.cell? ⟨bc, 0, none⟩ = some (.slice (some ⟨gc, 0, none⟩) n cc)) (_ : n ≤ 131072) :
    Calls Try.prog 25 #[.pointer (some ⟨bc, 0, none⟩)] w fun e w' => e = .returned (.int .i64 (n : Nat)) ∧ w' = w := by
  go_enter Try.func25, Try.ntmps25
  go_wp2_with fail
  go_ret
  exact ⟨rfl, rfl⟩

set_option maxRecDepth 100000 in
set_option maxHeartbeats 1000000 in
theorem isTable_at (w : World) (i : Int) (bb : Bool) (hb : bb = decide (1 ≤ i ∧ i ≤ 131072)) :
    Calls Try.prog 17 #[.int .i64 i] w fun e w' => e = .returned (.bool bb) ∧ w' = w := by
  by_cases h1 : 1 ≤ i
  · by_cases h2 : i ≤ 131072
    · have hbt : bb = true := by rw [hb]; exact decide_eq_true ⟨h1, h2⟩
      subst hbt
      have hd1 : decide (1 ≤ i) = true := decide_eq_true h1
      have hd2 : decide (i ≤ 131072) = true := decide_eq_true h2
      clear hb
      go_enter Try.func17, Try.ntmps17
      go_wp2_with fail
      go_ret
      exact ⟨rfl, rfl⟩
    · have hbt : bb = false := by rw [hb]; exact decide_eq_false (by omega)
      subst hbt
      have hd1 : decide (1 ≤ i) = true := decide_eq_true h1
      have hd2 : decide (i ≤ 131072) = false := decide_eq_false h2
      clear hb
      go_enter Try.func17, Try.ntmps17
      go_wp2_with fail
      go_ret
      exact ⟨rfl, rfl⟩
  · have hbt : bb = false := by rw [hb]; exact decide_eq_false (by omega)
    subst hbt
    have hd1 : decide (1 ≤ i) = false := decide_eq_false h1
    clear hb
    go_enter Try.func17, Try.ntmps17
    go_wp2_with fail
    go_ret
    exact ⟨rfl, rfl⟩

end Go.Proofs.Ytkggdnkmaldmlab
