/- The reference's 'span', 'greater', 'lesser' and 'Set'. -/
import Derived.Test.YtflhbmapikdmhaaDoorRefPut
import Derived.Test.YtflhbmapikdmhaaDoorRef
namespace Go.Proofs.YtflhbmapikdmhaaDoor
set_option maxRecDepth 100000
open Go.RowKit

/-- What 'span' tells: the i from a to c. -/
structure SpanOK (t n : Int) (most : Nat) (a c : Int) : Prop where
  lo : 0 ≤ a
  hi : c ≤ n
  iff : ∀ i : Int, 0 ≤ i → i < n → ((0 ≤ t + i ∧ t + i < most) ↔ (a ≤ i ∧ i < c))
  own : a < c → 0 ≤ t + a ∧ t + c ≤ most

set_option linter.unusedSimpArgs false in
set_option maxHeartbeats 1000000 in
theorem span_any (t n : Int) (most : Nat) (w : World) (ht : -9223372036854775808 ≤ t ∧ t ≤ 9223372036854775807) (hn : 0 ≤ n ∧ n ≤ 9223372036854775807) (hm : most ≤ 1048576) :
    Calls Tryd.prog 37 #[.int .i64 t, .int .i64 n, .int .i64 (most : Int)] w fun e w' => (∃ a c : Int, e = .returned (.tuple #[.int .i64 a, .int .i64 c]) ∧ SpanOK t n most a c) ∧ w' = w := by
  obtain ⟨ht1, ht2⟩ := ht
  obtain ⟨hn1, hn2⟩ := hn
  by_cases h0 : t < 0
  · have d0 : decide (t < 0) = true := decide_eq_true h0
    by_cases hmin : t = -9223372036854775808
    · subst hmin
      go_enter Tryd.func37, Tryd.ntmps37
      go_wp2_with fail
      go_ret2
      exact ⟨⟨0, 0, rfl, ⟨by omega, by omega, fun i h1 h2 => by omega, fun h => by omega⟩⟩, rfl⟩
    · have hmb : (t == -9223372036854775808) = false := by simp; omega
      obtain ⟨s, hs⟩ : ∃ s : Int, s = -t := ⟨_, rfl⟩
      have hneg : -t = s := hs.symm
      have hws : IntKind.i64.wrap s = s := by rw [IntKind.wrap_i64]; omega
      by_cases h1 : n ≤ s
      · have d1 : decide (n ≤ s) = true := decide_eq_true h1
        have HS : Hid (s = -t) := hs
        clear hs
        go_enter Tryd.func37, Tryd.ntmps37
        go_wp2_with fail
        go_ret2
        have hs := HS.out
        exact ⟨⟨0, 0, rfl, ⟨by omega, by omega, fun i h1 h2 => by omega, fun h => by omega⟩⟩, rfl⟩
      · have d1 : decide (n ≤ s) = false := decide_eq_false h1
        have d2 : decide ((most : Int) ≤ t) = false := decide_eq_false (by omega)
        have d3 : decide (0 ≤ t) = false := decide_eq_false (by omega)
        have hwn : IntKind.i64.wrap (n - s) = n - s := by rw [IntKind.wrap_i64]; omega
        by_cases h2 : (most : Int) < n - s
        · have d4 : decide ((most : Int) < n - s) = true := decide_eq_true h2
          have hwa : IntKind.i64.wrap (s + (most : Int)) = s + most := by rw [IntKind.wrap_i64]; omega
          have HS : Hid (s = -t) := hs
          clear hs
          go_enter Tryd.func37, Tryd.ntmps37
          go_wp2_with fail
          go_ret2
          have hs := HS.out
          exact ⟨⟨s, s + most, rfl, ⟨by omega, by omega, fun i h1 h2 => by omega, fun h => by omega⟩⟩, rfl⟩
        · have d4 : decide ((most : Int) < n - s) = false := decide_eq_false h2
          have HS : Hid (s = -t) := hs
          clear hs
          go_enter Tryd.func37, Tryd.ntmps37
          go_wp2_with fail
          go_ret2
          have hs := HS.out
          exact ⟨⟨s, n, rfl, ⟨by omega, by omega, fun i h1 h2 => by omega, fun h => by omega⟩⟩, rfl⟩
  · have d0 : decide (t < 0) = false := decide_eq_false h0
    have d3 : decide (0 ≤ t) = true := decide_eq_true (by omega)
    by_cases h1 : (most : Int) ≤ t
    · have d2 : decide ((most : Int) ≤ t) = true := decide_eq_true h1
      go_enter Tryd.func37, Tryd.ntmps37
      go_wp2_with fail
      go_ret2
      exact ⟨⟨0, 0, rfl, ⟨by omega, by omega, fun i h1 h2 => by omega, fun h => by omega⟩⟩, rfl⟩
    · have d2 : decide ((most : Int) ≤ t) = false := decide_eq_false h1
      have hwm : IntKind.i64.wrap ((most : Int) - t) = most - t := by rw [IntKind.wrap_i64]; omega
      by_cases h2 : (most : Int) - t < n
      · have d4 : decide ((most : Int) - t < n) = true := decide_eq_true h2
        go_enter Tryd.func37, Tryd.ntmps37
        go_wp2_with fail
        go_ret2
        exact ⟨⟨0, most - t, rfl, ⟨by omega, by omega, fun i h1 h2 => by omega, fun h => by omega⟩⟩, rfl⟩
      · have d4 : decide ((most : Int) - t < n) = false := decide_eq_false h2
        go_enter Tryd.func37, Tryd.ntmps37
        go_wp2_with fail
        go_ret2
        exact ⟨⟨0, n, rfl, ⟨by omega, by omega, fun i h1 h2 => by omega, fun h => by omega⟩⟩, rfl⟩

theorem greater_any (a b : Int) (w : World) : Calls Tryd.prog 40 #[.int .i64 a, .int .i64 b] w fun e w' => e = .returned (.int .i64 (max a b)) ∧ w' = w := by
  by_cases h : b < a
  · have d : decide (b < a) = true := decide_eq_true h
    go_enter Tryd.func40, Tryd.ntmps40
    go_wp2_with fail
    go_ret
    exact ⟨by rw [Int.max_eq_left (by omega)]; rfl, rfl⟩
  · have d : decide (b < a) = false := decide_eq_false h
    go_enter Tryd.func40, Tryd.ntmps40
    go_wp2_with fail
    go_ret
    exact ⟨by rw [Int.max_eq_right (by omega)]; rfl, rfl⟩
theorem lesser_any (a b : Int) (w : World) : Calls Tryd.prog 41 #[.int .i64 a, .int .i64 b] w fun e w' => e = .returned (.int .i64 (min a b)) ∧ w' = w := by
  by_cases h : a < b
  · have d : decide (a < b) = true := decide_eq_true h
    go_enter Tryd.func41, Tryd.ntmps41
    go_wp2_with fail
    go_ret
    exact ⟨by rw [Int.min_eq_left (by omega)]; rfl, rfl⟩
  · have d : decide (a < b) = false := decide_eq_false h
    go_enter Tryd.func41, Tryd.ntmps41
    go_wp2_with fail
    go_ret
    exact ⟨by rw [Int.min_eq_right (by omega)]; rfl, rfl⟩

set_option linter.unusedSimpArgs false in
set_option maxHeartbeats 1000000 in
theorem rset_out (W H : Nat) (v : Value) (x y bit : Int) (w : World) (hv : ∃ ao n cap, v = .slice ao n cap) (hx : ¬ (0 ≤ x ∧ x < W ∧ 0 ≤ y ∧ y < H)) :
    Calls Tryd.prog 7 #[.agg #[.int .i64 (W : Int), .int .i64 (H : Int), v], .int .i64 x, .int .i64 y, .int .i64 bit] w fun e w' => e = .returned (.int .i64 22) ∧ Fr (fun _ => False) w w' := by
  obtain ⟨ao, n, cap, rfl⟩ := hv
  have HF1 : Hid (Fr (fun _ => False) w (w.alloc (.cells #[.int .i64 (W : Int), .int .i64 (H : Int), .slice ao n cap] 39))) := (Fr.refl _ w).alloc _
  have HX : Hid (¬ (0 ≤ x ∧ x < W ∧ 0 ≤ y ∧ y < H)) := hx
  clear hx
  by_cases h1 : x < 0
  · have d1 : decide (x < 0) = true := decide_eq_true h1
    go_enter Tryd.func7, Tryd.ntmps7
    go_wp2_with fail
    go_ret
    exact ⟨rfl, HF1.out⟩
  · have d1 : decide (x < 0) = false := decide_eq_false h1
    by_cases h2 : y < 0
    · have d2 : decide (y < 0) = true := decide_eq_true h2
      go_enter Tryd.func7, Tryd.ntmps7
      go_wp2_with fail
      go_ret
      exact ⟨rfl, HF1.out⟩
    · have d2 : decide (y < 0) = false := decide_eq_false h2
      by_cases h3 : (W : Int) ≤ x
      · have d3 : decide ((W : Int) ≤ x) = true := decide_eq_true h3
        go_enter Tryd.func7, Tryd.ntmps7
        go_wp2_with fail
        go_ret
        exact ⟨rfl, HF1.out⟩
      · have d3 : decide ((W : Int) ≤ x) = false := decide_eq_false h3
        have d4 : decide ((H : Int) ≤ y) = true := decide_eq_true (by have := HX.out; omega)
        go_enter Tryd.func7, Tryd.ntmps7
        go_wp2_with fail
        go_ret
        exact ⟨rfl, HF1.out⟩
end Go.Proofs.YtflhbmapikdmhaaDoor
