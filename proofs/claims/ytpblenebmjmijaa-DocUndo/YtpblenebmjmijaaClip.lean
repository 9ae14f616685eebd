/- 'clip' and 'operations'. -/
import Derived.Test.YtpblenebmjmijaaLine
import Derived.Handy
namespace Go.Proofs.Ytpblenebmjmijaa
open Go.RowKit

/-- What 'clip' tells: c places from a on, that come to b and on: those of n places that are inside on both sides. -/
structure Clip (fr : Int) (fe : Nat) (to : Int) (te : Nat) (n : Int) (a b c : Nat) : Prop where
  ha : a + c ≤ fe
  hb : b + c ≤ te
  off : 0 < c → fr - to = (a : Int) - (b : Int)
  iff : ∀ i : Int, 0 ≤ i → i < n → ((0 ≤ fr + i ∧ fr + i < fe ∧ 0 ≤ to + i ∧ to + i < te) ↔ ((a : Int) ≤ fr + i ∧ fr + i < (a : Int) + (c : Int)))
  own : 0 < c → 0 ≤ (a : Int) - fr ∧ (a : Int) - fr + c ≤ n

theorem gap_any' (a b : Int) (g : Nat) (w : World) (hg : g = (b - a).toNat) (ha : -9223372036854775808 ≤ a ∧ a ≤ 9223372036854775807) (hb : -9223372036854775808 ≤ b ∧ b ≤ 9223372036854775807) :
    Calls Try.prog 57 #[.int .i64 a, .int .i64 b] w fun e w' => e = .returned (.int .u64 (g : Nat)) ∧ w' = w := by
  subst hg; exact gap_any a b w ha hb

theorem agg3 {a b c a' b' c' : Int} (h1 : a = a') (h2 : b = b') (h3 : c = c') : #[Value.int .i64 a, Value.int .i64 b, Value.int .i64 c] = #[Value.int .i64 a', Value.int .i64 b', Value.int .i64 c'] := by
  subst h1; subst h2; subst h3; rfl

theorem clipNone {fr to : Int} {fe te N g1 g2 g3 g4 : Nat} (H : g1 = (0 - fr).toNat ∧ g2 = (0 - to).toNat ∧ g3 = ((fe : Int) - fr).toNat ∧ g4 = ((te : Int) - to).toNat) (h : min (min N g3) g4 ≤ max g1 g2) : Clip fr fe to te N 0 0 0 := by
  obtain ⟨h1, h2, h3, h4⟩ := H
  refine ⟨by omega, by omega, fun h => by omega, fun i hi hn => ?_, fun h => by omega⟩
  constructor
  · rintro ⟨a, b, c, d⟩; omega
  · rintro ⟨a, b⟩; omega
theorem clipSome {fr to : Int} {fe te N g1 g2 g3 g4 : Nat} (H : g1 = (0 - fr).toNat ∧ g2 = (0 - to).toNat ∧ g3 = ((fe : Int) - fr).toNat ∧ g4 = ((te : Int) - to).toNat) (h : max g1 g2 < min (min N g3) g4) : Clip fr fe to te N (fr + (max g1 g2 : Nat)).toNat (to + (max g1 g2 : Nat)).toNat (min (min N g3) g4 - max g1 g2) := by
  obtain ⟨h1, h2, h3, h4⟩ := H
  refine ⟨by omega, by omega, fun h => by omega, fun i hi hn => ?_, fun h => by omega⟩
  constructor
  · rintro ⟨a, b, c, d⟩; omega
  · rintro ⟨a, b⟩; omega

set_option maxRecDepth 100000 in
set_option maxHeartbeats 2000000 in
theorem clip_any (fr to n : Int) (fe te : Nat) (w : World) (hfr : -9223372036854775808 ≤ fr ∧ fr ≤ 9223372036854775807) (hto : -9223372036854775808 ≤ to ∧ to ≤ 9223372036854775807) (hn : 0 ≤ n ∧ n ≤ 9223372036854775807) (hfe : fe ≤ 1048576) (hte : te ≤ 1048576) :
    Calls Try.prog 49 #[.int .i64 fr, .int .i64 fe, .int .i64 to, .int .i64 te, .int .i64 n] w fun e w' => ∃ a b c, e = .returned (.agg #[.int .i64 (a : Nat), .int .i64 (b : Nat), .int .i64 (c : Nat)]) ∧ Clip fr fe to te n a b c ∧ Fr (fun _ => False) w w' := by
  obtain ⟨g1, hg1⟩ : ∃ g1 : Nat, g1 = (0 - fr).toNat := ⟨_, rfl⟩
  obtain ⟨g2, hg2⟩ : ∃ g2 : Nat, g2 = (0 - to).toNat := ⟨_, rfl⟩
  obtain ⟨g3, hg3⟩ : ∃ g3 : Nat, g3 = ((fe : Int) - fr).toNat := ⟨_, rfl⟩
  obtain ⟨g4, hg4⟩ : ∃ g4 : Nat, g4 = ((te : Int) - to).toNat := ⟨_, rfl⟩
  obtain ⟨N, hN⟩ : ∃ N : Nat, N = n.toNat := ⟨_, rfl⟩
  have hNn : n = (N : Int) := by omega
  subst hNn
  have G1 : Hid (∀ w, Calls Try.prog 57 #[.int .i64 fr, .int .i64 0] w fun e w' => e = .returned (.int .u64 (g1 : Nat)) ∧ w' = w) := fun w => gap_any' fr 0 g1 w hg1 hfr (by omega)
  have G2 : Hid (∀ w, Calls Try.prog 57 #[.int .i64 to, .int .i64 0] w fun e w' => e = .returned (.int .u64 (g2 : Nat)) ∧ w' = w) := fun w => gap_any' to 0 g2 w hg2 hto (by omega)
  have G3 : Hid (∀ w, Calls Try.prog 57 #[.int .i64 fr, .int .i64 fe] w fun e w' => e = .returned (.int .u64 (g3 : Nat)) ∧ w' = w) := fun w => gap_any' fr fe g3 w hg3 hfr (by omega)
  have G4 : Hid (∀ w, Calls Try.prog 57 #[.int .i64 to, .int .i64 te] w fun e w' => e = .returned (.int .u64 (g4 : Nat)) ∧ w' = w) := fun w => gap_any' to te g4 w hg4 hto (by omega)
  have HH : Hid (g1 = (0 - fr).toNat ∧ g2 = (0 - to).toNat ∧ g3 = ((fe : Int) - fr).toNat ∧ g4 = ((te : Int) - to).toNat) := ⟨hg1, hg2, hg3, hg4⟩
  clear hg1 hg2 hg3 hg4 hN
  rcases Nat.lt_or_ge g1 g2 with m1 | m1 <;> rcases Nat.lt_or_ge g3 N with m2 | m2 <;> rcases Nat.lt_or_ge g4 (if g3 < N then g3 else N) with m3 | m3 <;> rcases Nat.lt_or_ge (max g1 g2) (min (min N g3) g4) with m4 | m4
  all_goals
    first | rw [if_pos (by omega)] at m3 | rw [if_neg (by omega)] at m3
  all_goals
    go_enter Try.func49, Try.ntmps49
    go_wp2_with fail
    refine (G1.out _).mono ?_
    rintro e w1 ⟨rfl, rfl⟩
    go_wp2_with fail
    refine (G2.out _).mono ?_
    rintro e w2 ⟨rfl, rfl⟩
    go_wp2_with fail
    refine (G3.out _).mono ?_
    rintro e w1 ⟨rfl, rfl⟩
    go_wp2_with fail
    refine (G4.out _).mono ?_
    rintro e w2 ⟨rfl, rfl⟩
    go_wp2_with fail
    go_returns
    first
      | exact ⟨0, 0, 0, rfl, clipNone HH.out m4, (Fr.refl _ _).alloc _⟩
      | refine ⟨_, _, _, congrArg Ending.returned (congrArg Value.agg (agg3 ?_ ?_ ?_)), clipSome HH.out m4, (Fr.refl _ _).alloc _⟩
        all_goals
          obtain ⟨q1, q2, q3, q4⟩ := HH.out
          (try unfold wrap64)
          omega

set_option maxRecDepth 100000 in
set_option maxHeartbeats 1000000 in
theorem operations_any (w : World) :
    Calls Try.prog 50 #[] w fun e w' => e = .returned (.slice (some ⟨w.heap.size, 0, none⟩) 5 5) ∧ w' = w.alloc (.cells #[.int .i64 0, .func (.func 58) #[] #[], .int .i64 1, .func (.func 59) #[] #[], .int .i64 2, .func (.func 60) #[] #[], .int .i64 3, .func (.func 61) #[] #[], .int .i64 4, .func (.func 62) #[] #[]] 98) := by
  go_enter Try.func50, Try.ntmps50
  go_wp2
  go_ret
  exact ⟨rfl, rfl⟩

end Go.Proofs.Ytpblenebmjmijaa
