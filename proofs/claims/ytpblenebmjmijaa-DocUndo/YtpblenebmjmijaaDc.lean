/- Sizes; a new document; pages and their number; bits and places. -/
import Derived.Test.YtpblenebmjmijaaDb
import Derived.Deep.QuietTactic
import Derived.BigQuiet
import Derived.BigRegion
namespace Go.Proofs.Ytpblenebmjmijaa
set_option maxRecDepth 100000
open Go.RowKit

set_option maxHeartbeats 1000000 in
theorem dsize_any (x y : Int) (w : World) (hx : -9223372036854775808 ≤ x ∧ x ≤ 9223372036854775807) (hy : -9223372036854775808 ≤ y ∧ y ≤ 9223372036854775807) :
    Calls Try.prog 16 #[.int .i64 x, .int .i64 y] w fun e w' => e = .returned (.bool (sizeOK x y)) ∧ w' = w := by
  go_enter Try.func16, Try.ntmps16
  by_cases h0 : 1 ≤ x
  · by_cases h1 : 1 ≤ y
    · go_wp2
      go_ret
      exact ⟨by rw [← sizeOK_of x y h0 h1]; rfl, rfl⟩
    · go_wp2
      go_ret
      exact ⟨by simp [sizeOK]; omega, rfl⟩
  · go_wp2
    go_ret
    exact ⟨by simp [sizeOK]; omega, rfl⟩

set_option maxHeartbeats 1000000 in
theorem dbit_any (b : Int) (w : World) :
    Calls Try.prog 23 #[.int .i64 b] w fun e w' => e = .returned (.bool (decide (b = 0 ∨ b = 1))) ∧ w' = w := by
  go_enter Try.func23, Try.ntmps23
  by_cases h0 : b = 0
  · subst h0
    go_wp2
    go_ret
    exact ⟨by simp, rfl⟩
  · have h0' : (b == 0) = false := by simp [h0]
    go_wp2
    go_ret
    exact ⟨by simp [h0]; rw [Bool.beq_eq_decide_eq], rfl⟩

theorem docNew_any (w : World) :
    Calls Try.prog 4 #[] w fun e w' => e = .returned (.pointer (some ⟨w.heap.size, 0, none⟩)) ∧ w' = w.alloc (.cells #[.slice none 0 0, .slice none 0 0] 51 (0, 0)) := by
  go_enter Try.func4, Try.ntmps4
  go_wp2
  go_ret
  exact ⟨rfl, rfl⟩
theorem DocAt.new (w : World) : DocAt (w.alloc (.cells #[.slice none 0 0, .slice none 0 0] 51 (0, 0))) w.heap.size w.heap.size (.slice none 0 0) (.slice none 0 0) [] [] :=
  ⟨heap_alloc_new _ _, Nat.le_refl _, ⟨rfl, Or.inl ⟨rfl, rfl⟩⟩, ⟨rfl, Or.inl ⟨rfl, rfl⟩⟩⟩

set_option maxHeartbeats 1000000 in
theorem pages_any (base d : Nat) (pv sv : Value) (ps ss : List Value) (w : World) (h : DocAt w base d pv sv ps ss) :
    Calls Try.prog 7 #[.pointer (some ⟨d, 0, none⟩)] w fun e w' => e = .returned (.int .i64 ps.length) ∧ w' = w := by
  obtain ⟨ao, cap, rfl⟩ := own_slice h.pg
  obtain ⟨e0, e1, ef⟩ := cell_of_two h.blk
  clear h
  go_enter Try.func7, Try.ntmps7
  go_wp2
  go_ret
  exact ⟨rfl, rfl⟩

theorem oneCell_ptr (a : Option Addr) : (Value.pointer a).oneCell' = true := by cases a <;> rfl
set_option maxHeartbeats 1000000 in
theorem page_in (base d : Nat) (pv sv : Value) (ps ss : List Value) (n : Nat) (a : Option Addr) (w : World) (h : DocAt w base d pv sv ps ss) (hv : ps[n]? = some (.pointer a)) (hb : ps.length ≤ 64) :
    Calls Try.prog 21 #[.pointer (some ⟨d, 0, none⟩), .int .i64 n] w fun e w' => e = .returned (.pointer a) ∧ w' = w := by
  obtain ⟨hn, hv'⟩ := List.getElem?_eq_some_iff.mp hv
  obtain ⟨g, cap, rfl, _, _⟩ := h.pg.form (by omega)
  obtain ⟨e0, e1, ef⟩ := cell_of_two h.blk
  have hc := h.pg.cellAt n (by omega)
  rw [hv] at hc
  have hl : ps.length ≤ 64 := hb
  clear h hv hv'
  generalize ps.length = m at *
  clear hb
  go_enter Try.func21, Try.ntmps21
  go_wp2
  go_ret
  exact ⟨rfl, rfl⟩
set_option maxHeartbeats 1000000 in
theorem page_out (base d : Nat) (pv sv : Value) (ps ss : List Value) (n : Int) (w : World) (h : DocAt w base d pv sv ps ss) (hv : n < 0 ∨ (ps.length : Int) ≤ n) :
    Calls Try.prog 21 #[.pointer (some ⟨d, 0, none⟩), .int .i64 n] w fun e w' => e = .returned (.pointer none) ∧ w' = w := by
  obtain ⟨ao, cap, rfl⟩ := own_slice h.pg
  obtain ⟨e0, e1, ef⟩ := cell_of_two h.blk
  clear h
  generalize ps.length = m at *
  by_cases h0 : n < 0
  · clear hv
    go_enter Try.func21, Try.ntmps21
    go_wp2
    go_ret
    exact ⟨rfl, rfl⟩
  · have h1 : (m : Int) ≤ n := by omega
    clear hv
    go_enter Try.func21, Try.ntmps21
    go_wp2
    go_ret
    exact ⟨rfl, rfl⟩

set_option maxHeartbeats 1000000 in
theorem dinside_any (b g cap W H : Nat) (P : Nat → Nat → Bool) (x y : Int) (w : World) (h : MapAt w b g cap W H P) :
    Calls Try.prog 22 #[.pointer (some ⟨b, 0, none⟩), .int .i64 x, .int .i64 y] w fun e w' => e = .returned (.bool (decide (0 ≤ x ∧ x < W ∧ 0 ≤ y ∧ y < H))) ∧ ∃ q, w' = w.drewN q := by
  go_enter Try.func22, Try.ntmps22
  go_wp2_with fail
  refine (size_any b g cap W H P _ h).mono ?_
  rintro e w1 ⟨rfl, q, rfl⟩
  clear h
  by_cases h0 : 0 ≤ x
  · by_cases h1 : x < W
    · by_cases h2 : 0 ≤ y
      · go_wp2
        go_ret
        exact ⟨by simp [h0, h1, h2], q, rfl⟩
      · go_wp2
        go_ret
        exact ⟨by simp; omega, q, rfl⟩
    · go_wp2
      go_ret
      exact ⟨by simp; omega, q, rfl⟩
  · go_wp2
    go_ret
    exact ⟨by simp; omega, q, rfl⟩

set_option maxHeartbeats 1000000 in
theorem zSize_any (x y : Int) (w : World) (hx : -9223372036854775808 ≤ x ∧ x ≤ 9223372036854775807) (hy : -9223372036854775808 ≤ y ∧ y ≤ 9223372036854775807) :
    Calls Try.prog 6 #[.int .i64 x, .int .i64 y] w fun e w' => e = .returned (.bool (sizeOK x y)) ∧ w' = w := by
  go_enter Try.func6, Try.ntmps6
  by_cases h0 : 1 ≤ x
  · by_cases h1 : 1 ≤ y
    · by_cases h2 : x ≤ 1048576
      · go_wp2
        go_ret
        refine ⟨?_, rfl⟩
        have : decide (y ≤ 1048576 / x) = sizeOK x y := by
          rw [sizeOK_of y x h1 h0]; unfold sizeOK; rw [decide_eq_decide, Int.mul_comm y x]; omega
        rw [← this]; rfl
      · go_wp2
        go_ret
        refine ⟨?_, rfl⟩
        have : sizeOK x y = false := by
          unfold sizeOK
          refine decide_eq_false ?_
          rintro ⟨_, _, h3⟩
          have : x * 1 ≤ x * y := Int.mul_le_mul_of_nonneg_left h1 (by omega)
          omega
        rw [this]; rfl
    · go_wp2
      go_ret
      exact ⟨by simp [sizeOK]; omega, rfl⟩
  · go_wp2
    go_ret
    exact ⟨by simp [sizeOK]; omega, rfl⟩


theorem shl_zero (x r : Nat) (hr : r < 64) (h0 : 0 < r) : x * 2 ^ r % 18446744073709551616 = 0 ↔ x % 2 ^ (64 - r) = 0 := by
  have e : (18446744073709551616 : Nat) = 2 ^ (64 - r) * 2 ^ r := by rw [← Nat.pow_add, show 64 - r + r = 64 from by omega]
  rw [e, Nat.mul_mod_mul_right]
  have : 0 < 2 ^ r := Nat.two_pow_pos r
  constructor
  · intro h
    rcases Nat.mul_eq_zero.1 h with h | h
    · exact h
    · omega
  · intro h; rw [h]; simp

end Go.Proofs.Ytpblenebmjmijaa
