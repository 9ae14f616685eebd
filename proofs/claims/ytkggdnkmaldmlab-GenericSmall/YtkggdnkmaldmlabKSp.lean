/- Package context: isNear, count, spansOf, Size. -/
import Derived.Test.YtkggdnkmaldmlabProg
import Derived.Test.YtkggdnkmaldmlabK1
namespace Go.Proofs.Ytkggdnkmaldmlab
open Go.RowKit

theorem isNear_any (x : Int) (n : Nat) (w : World) (hx : -9223372036854775808 ≤ x ∧ x ≤ 9223372036854775807) (hn : n ≤ 1048576) (bb : Bool) (hbb : bb = decide (-4 ≤ x ∧ x ≤ n + 4)) :
    Calls Try.prog 54 #[.int .i64 x, .int .i64 n] w fun e w' => e = .returned (.bool bb) ∧ w' = w := by
  have hw : IntKind.i64.wrap ((n : Int) + 4) = n + 4 := by rw [IntKind.wrap_i64]; omega
  by_cases h1 : -4 ≤ x
  · by_cases h2 : x ≤ n + 4
    · have hbt : bb = true := by rw [hbb]; exact decide_eq_true ⟨h1, h2⟩
      subst hbt
      have hd1 : decide (-4 ≤ x) = true := decide_eq_true h1
      have hd2 : decide (x ≤ (n : Int) + 4) = true := decide_eq_true h2
      clear hbb h1 h2 hx hn
      go_enter Try.func54, Try.ntmps54
      go_wp2_with fail
      go_ret
      exact ⟨rfl, rfl⟩
    · have hbt : bb = false := by rw [hbb]; exact decide_eq_false (by omega)
      subst hbt
      have hd1 : decide (-4 ≤ x) = true := decide_eq_true h1
      have hd2 : decide (x ≤ (n : Int) + 4) = false := decide_eq_false h2
      clear hbb h1 h2 hx hn
      go_enter Try.func54, Try.ntmps54
      go_wp2_with fail
      go_ret
      exact ⟨rfl, rfl⟩
  · have hbt : bb = false := by rw [hbb]; exact decide_eq_false (by omega)
    subst hbt
    have hd1 : decide (-4 ≤ x) = false := decide_eq_false h1
    clear hbb h1 hx hn hw
    go_enter Try.func54, Try.ntmps54
    go_wp2_with fail
    go_ret
    exact ⟨rfl, rfl⟩

theorem count_any (a b : Int) (c : Nat) (w : World) (ha : -1000 ≤ a ∧ a ≤ 1000) (hb : -1000 ≤ b ∧ b ≤ 1000) (hc : b - a + 1 = (c : Int)) :
    Calls Try.prog 50 #[.agg #[.int .i64 a, .int .i64 b]] w fun e w' => e = .returned (.int .i64 c) ∧ Fr (fun _ => False) w w' := by
  have hw : IntKind.i64.wrap (b - a) = b - a := by rw [IntKind.wrap_i64]; omega
  have hw2 : IntKind.i64.wrap (b - a + 1) = (c : Int) := by rw [IntKind.wrap_i64]; omega
  clear ha hb hc
  go_enter Try.func50, Try.ntmps50
  go_wp2_with fail
  go_ret
  exact ⟨rfl, (Fr.refl _ _).alloc _⟩

def spanV (t i : Nat) : Value := .agg #[.int .i64 (fstS t i), .int .i64 (lstS t i)]
def spansV (t : Nat) : Value := .agg #[.int .i64 (fstS t 0), .int .i64 (lstS t 0), .int .i64 (fstS t 1), .int .i64 (lstS t 1), .int .i64 (fstS t 2), .int .i64 (lstS t 2)]

theorem spansOf_ok0 (w : World) :
    Calls Try.prog 49 #[.int .i64 0] w fun e w' => e = .returned (.tuple #[spansV 0, .bool true]) ∧ Fr (fun _ => False) w w' := by
  go_enter Try.func49, Try.ntmps49
  go_wp2_with fail
  refine bodyPost_ret (v := .tuple #[spansV 0, .bool true]) (by simp [results, Try.results49, go_sem]; rfl) rfl ?_
  exact ⟨rfl, (Fr.refl _ _).alloc _⟩

theorem spansOf_ok1 (w : World) :
    Calls Try.prog 49 #[.int .i64 1] w fun e w' => e = .returned (.tuple #[spansV 1, .bool true]) ∧ Fr (fun _ => False) w w' := by
  go_enter Try.func49, Try.ntmps49
  go_wp2_with fail
  refine bodyPost_ret (v := .tuple #[spansV 1, .bool true]) (by simp [results, Try.results49, go_sem]; rfl) rfl ?_
  exact ⟨rfl, (Fr.refl _ _).alloc _⟩

theorem spansOf_ok2 (w : World) :
    Calls Try.prog 49 #[.int .i64 2] w fun e w' => e = .returned (.tuple #[spansV 2, .bool true]) ∧ Fr (fun _ => False) w w' := by
  go_enter Try.func49, Try.ntmps49
  go_wp2_with fail
  refine bodyPost_ret (v := .tuple #[spansV 2, .bool true]) (by simp [results, Try.results49, go_sem]; rfl) rfl ?_
  exact ⟨rfl, (Fr.refl _ _).alloc _⟩

theorem spansOf_ok3 (w : World) :
    Calls Try.prog 49 #[.int .i64 3] w fun e w' => e = .returned (.tuple #[spansV 3, .bool true]) ∧ Fr (fun _ => False) w w' := by
  go_enter Try.func49, Try.ntmps49
  go_wp2_with fail
  refine bodyPost_ret (v := .tuple #[spansV 3, .bool true]) (by simp [results, Try.results49, go_sem]; rfl) rfl ?_
  exact ⟨rfl, (Fr.refl _ _).alloc _⟩

theorem spansOf_ok (t : Nat) (ht : t < 4) (w : World) :
    Calls Try.prog 49 #[.int .i64 t] w fun e w' => e = .returned (.tuple #[spansV t, .bool true]) ∧ Fr (fun _ => False) w w' := by
  match t, ht with
  | 0, _ => exact spansOf_ok0 w
  | 1, _ => exact spansOf_ok1 w
  | 2, _ => exact spansOf_ok2 w
  | 3, _ => exact spansOf_ok3 w

def noSpans : Value := .agg #[.int .i64 0, .int .i64 0, .int .i64 0, .int .i64 0, .int .i64 0, .int .i64 0]

theorem spansOf_bad (t : Int) (ht : t < 0 ∨ 4 ≤ t) (w : World) :
    Calls Try.prog 49 #[.int .i64 t] w fun e w' => e = .returned (.tuple #[noSpans, .bool false]) ∧ Fr (fun _ => False) w w' := by
  have h0 : (t == 0) = false := by simp; omega
  have h1 : (t == 1) = false := by simp; omega
  have h2 : (t == 2) = false := by simp; omega
  have h3 : (t == 3) = false := by simp; omega
  clear ht
  go_enter Try.func49, Try.ntmps49
  go_wp2_with fail
  refine bodyPost_ret (v := .tuple #[noSpans, .bool false]) (by simp [results, Try.results49, go_sem]; rfl) rfl ?_
  exact ⟨rfl, (Fr.refl _ _).alloc _⟩

theorem spans_index (w : World) (t i : Nat) (hi : i < 3) : (Instr.index 96 (.agg #[.int .i64 (fstS t 0), .int .i64 (lstS t 0), .int .i64 (fstS t 1), .int .i64 (lstS t 1), .int .i64 (fstS t 2), .int .i64 (lstS t 2)]) (.int .i64 (i : Int))).run Try.prog w = .ok (.agg #[.int .i64 (fstS t i), .int .i64 (lstS t i)]) w := by
  rcases (by omega : i = 0 ∨ i = 1 ∨ i = 2) with rfl | rfl | rfl <;> kernel_rfl

set_option maxRecDepth 100000 in
set_option maxHeartbeats 1000000 in
theorem size_any (t : Nat) (ht : t < 4) (w : World) :
    Calls Try.prog 37 #[.int .i64 t] w fun e w' => e = .returned (.tuple #[.int .i64 (sizeT t : Nat), .int .i64 0]) ∧ Fr (fun _ => False) w w' := by
  have HS : Hid (t < 4) := ht
  have HB : Hid (∀ k, k < 3 → (2 ^ bitsK t k : Nat) * 2 ^ cntS t k = 2 ^ bitsK t (k + 1) ∧ 2 ^ bitsK t (k + 1) ≤ 65536 ∧ cntS t k ≤ 7) := fun k hk => by
    have h : ∀ t, t < 4 → ∀ k, k < 3 → (2 ^ bitsK t k : Nat) * 2 ^ cntS t k = 2 ^ bitsK t (k + 1) ∧ 2 ^ bitsK t (k + 1) ≤ 65536 ∧ cntS t k ≤ 7 := by decide
    exact h t ht k hk
  clear ht
  go_enter Try.func37, Try.ntmps37
  go_wp2_with fail
  refine (spansOf_ok t HS.out _).mono ?_
  rintro e w1 ⟨rfl, hf1⟩
  have HF1 : Hid (Fr (fun _ => False) w w1) := hf1
  clear hf1
  unfold spansV
  go_wp2_with fail
  go_loopw [6, 8, 17] (fun s _ j wr => ∃ k : Nat, k ≤ 3 ∧ s = .int .i64 (2 ^ bitsK t k : Nat) ∧ j = .int .i64 k ∧ Fr (fun _ => False) w wr) (fun _ _ j _ => 3 - (intOf j).toNat)
  case atStart => exact ⟨0, Nat.zero_le _, rfl, rfl, HF1.out.alloc _⟩
  case round =>
    obtain ⟨k, hk, rfl, rfl, hfr⟩ := hrel
    have HFr : Hid (Fr (fun _ => False) w wr) := hfr
    clear hfr
    by_cases hlt : k < 3
    · obtain ⟨hb1, hb2, hb3⟩ := HB.out k hlt
      have hsf := span_facts t k HS.out hlt
      have HC : Hid (∀ w', Calls Try.prog 50 #[.agg #[.int .i64 (fstS t k), .int .i64 (lstS t k)]] w' fun e w'' => e = .returned (.int .i64 (cntS t k)) ∧ Fr (fun _ => False) w' w'') := fun w' => count_any _ _ _ w' (by omega) (by omega) hsf.2.2.2.2.1
      have hix := spans_index wr t k hlt
      obtain ⟨c, hc⟩ : ∃ c, c = cntS t k := ⟨_, rfl⟩
      obtain ⟨p, hp⟩ : ∃ p, p = 2 ^ bitsK t k := ⟨_, rfl⟩
      have HP : Hid (p * 2 ^ c = 2 ^ bitsK t (k + 1)) := by rw [hc, hp]; exact hb1
      rw [← hc] at HC hb3
      have hmin : min c 64 = c := by omega
      have hsh : IntKind.i64.wrap ((p : Int) * 2 ^ c) = ((p * 2 ^ c : Nat) : Int) := by
        have e : ((p : Int) * 2 ^ c) = ((p * 2 ^ c : Nat) : Int) := by rw [Int.natCast_mul, Int.natCast_pow]; rfl
        rw [e, IntKind.wrap_i64]; rw [HP.out]; omega
      rw [← hp]
      clear hsf hb1 hb2 hc hp
      go_wp2_with fail
      refine (HC.out _).mono ?_
      rintro e w2 ⟨rfl, hf2⟩
      have HF2 : Hid (Fr (fun _ => False) w w2) := (HFr.out.alloc _).trans hf2 (fun _ _ h => h)
      clear hf2
      go_wp2_with fail
      go_roundw
      case rel => exact ⟨k + 1, by omega, congrArg (Value.int .i64) (by rw [← HP.out, Int.natCast_mul, Int.natCast_pow]; rfl), congrArg (Value.int .i64) (by omega), HF2.out⟩
      case measure => simp [intOf]; omega
    · obtain rfl : k = 3 := by omega
      go_wp2_with fail
      go_ret2
      exact ⟨rfl, HFr.out⟩

end Go.Proofs.Ytkggdnkmaldmlab
