/- 'gap' and 'clip' of package doc; the steps that come to a rectangle. -/
import Derived.Test.YtpblenebmjmijaaDi
import Derived.Handy
namespace Go.Proofs.Ytpblenebmjmijaa
set_option maxRecDepth 100000
open Go.RowKit

set_option maxHeartbeats 1000000 in
theorem dgap_any (a b : Int) (w : World) (ha : -9223372036854775808 ≤ a ∧ a ≤ 9223372036854775807) (hb : -9223372036854775808 ≤ b ∧ b ≤ 9223372036854775807) :
    Calls Try.prog 48 #[.int .i64 a, .int .i64 b] w fun e w' => e = .returned (.int .u64 ((b - a).toNat : Nat)) ∧ w' = w := by
  by_cases h0 : b ≤ a
  · go_enter Try.func48, Try.ntmps48
    go_wp2
    go_ret
    exact ⟨by simp; omega, rfl⟩
  · go_enter Try.func48, Try.ntmps48
    go_wp2
    go_ret
    exact ⟨by simp [wrapu64]; omega, rfl⟩

theorem dgap_any' (a b : Int) (g : Nat) (w : World) (hg : g = (b - a).toNat) (ha : -9223372036854775808 ≤ a ∧ a ≤ 9223372036854775807) (hb : -9223372036854775808 ≤ b ∧ b ≤ 9223372036854775807) :
    Calls Try.prog 48 #[.int .i64 a, .int .i64 b] w fun e w' => e = .returned (.int .u64 (g : Nat)) ∧ w' = w := by
  subst hg; exact dgap_any a b w ha hb

theorem agg2 {a b a' b' : Int} (h1 : a = a') (h2 : b = b') : #[Value.int .i64 a, Value.int .i64 b] = #[Value.int .i64 a', Value.int .i64 b'] := by
  subst h1; subst h2; rfl

set_option maxHeartbeats 2000000 in
theorem dclip_any (fr tq n : Int) (fe te : Nat) (w : World) (hfr : -9223372036854775808 ≤ fr ∧ fr ≤ 9223372036854775807) (hto : -9223372036854775808 ≤ tq ∧ tq ≤ 9223372036854775807) (hn : 0 ≤ n ∧ n ≤ 9223372036854775807) (hfe : fe ≤ 1048576) (hte : te ≤ 1048576) :
    Calls Try.prog 28 #[.int .i64 fr, .int .i64 fe, .int .i64 tq, .int .i64 te, .int .i64 n] w fun e w' => ∃ a b c, e = .returned (.agg #[.int .i64 (b : Nat), .int .i64 (c : Nat)]) ∧ Clip fr fe tq te n a b c ∧ Fr (fun _ => False) w w' := by
  obtain ⟨g1, hg1⟩ : ∃ g1 : Nat, g1 = (0 - fr).toNat := ⟨_, rfl⟩
  obtain ⟨g2, hg2⟩ : ∃ g2 : Nat, g2 = (0 - tq).toNat := ⟨_, rfl⟩
  obtain ⟨g3, hg3⟩ : ∃ g3 : Nat, g3 = ((fe : Int) - fr).toNat := ⟨_, rfl⟩
  obtain ⟨g4, hg4⟩ : ∃ g4 : Nat, g4 = ((te : Int) - tq).toNat := ⟨_, rfl⟩
  obtain ⟨N, hN⟩ : ∃ N : Nat, N = n.toNat := ⟨_, rfl⟩
  have hNn : n = (N : Int) := by omega
  subst hNn
  have G1 : Hid (∀ w, Calls Try.prog 48 #[.int .i64 fr, .int .i64 0] w fun e w' => e = .returned (.int .u64 (g1 : Nat)) ∧ w' = w) := fun w => dgap_any' fr 0 g1 w hg1 hfr (by omega)
  have G2 : Hid (∀ w, Calls Try.prog 48 #[.int .i64 tq, .int .i64 0] w fun e w' => e = .returned (.int .u64 (g2 : Nat)) ∧ w' = w) := fun w => dgap_any' tq 0 g2 w hg2 hto (by omega)
  have G3 : Hid (∀ w, Calls Try.prog 48 #[.int .i64 fr, .int .i64 fe] w fun e w' => e = .returned (.int .u64 (g3 : Nat)) ∧ w' = w) := fun w => dgap_any' fr fe g3 w hg3 hfr (by omega)
  have G4 : Hid (∀ w, Calls Try.prog 48 #[.int .i64 tq, .int .i64 te] w fun e w' => e = .returned (.int .u64 (g4 : Nat)) ∧ w' = w) := fun w => dgap_any' tq te g4 w hg4 hto (by omega)
  have HH : Hid (g1 = (0 - fr).toNat ∧ g2 = (0 - tq).toNat ∧ g3 = ((fe : Int) - fr).toNat ∧ g4 = ((te : Int) - tq).toNat) := ⟨hg1, hg2, hg3, hg4⟩
  clear hg1 hg2 hg3 hg4 hN
  rcases Nat.lt_or_ge g1 g2 with m1 | m1 <;> rcases Nat.lt_or_ge g3 N with m2 | m2 <;> rcases Nat.lt_or_ge g4 (if g3 < N then g3 else N) with m3 | m3 <;> rcases Nat.lt_or_ge (max g1 g2) (min (min N g3) g4) with m4 | m4
  all_goals
    first | rw [if_pos (by omega)] at m3 | rw [if_neg (by omega)] at m3
  all_goals
    go_enter Try.func28, Try.ntmps28
    go_wp2_with fail
    refine (G1.out _).mono ?_
    rintro e w1 ⟨rfl, rfl⟩
    go_wp2_with fail
    refine (G2.out _).mono ?_
    rintro e w2 ⟨rfl, rfl⟩
    go_wp2_with fail
    refine (G3.out _).mono ?_
    rintro e w1 ⟨rfl, rfl⟩
    go_wp2_with fail
    refine (G4.out _).mono ?_
    rintro e w2 ⟨rfl, rfl⟩
    go_wp2_with fail
    go_returns
    first
      | exact ⟨0, 0, 0, rfl, clipNone HH.out m4, (Fr.refl _ _).alloc _⟩
      | refine ⟨_, _, _, congrArg Ending.returned (congrArg Value.agg (agg2 ?_ ?_)), clipSome HH.out m4, (Fr.refl _ _).alloc _⟩
        all_goals
          obtain ⟨q1, q2, q3, q4⟩ := HH.out
          (try unfold wrap64)
          omega


theorem undo_nothing (w : World) : Calls Try.prog 45 #[] w fun e w' => e = .returned (.tuple #[]) ∧ w' = w := by
  go_enter Try.func45, Try.ntmps45
  go_wp2
  go_end0
  exact ⟨rfl, rfl⟩
end Go.Proofs.Ytpblenebmjmijaa
