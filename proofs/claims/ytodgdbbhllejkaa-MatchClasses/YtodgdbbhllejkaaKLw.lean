/- The laws' 'light' of bitmaps of any size that memory holds. -/
import Derived.Test.YtodgdbbhllejkaaKEb
namespace Go.Proofs.Ytodgdbbhllejkaa
open Go.RowKit

/-- How much 'light' counts. -/
def wgtW (A : Nat → Bp) : Nat → Nat := sumTo fun j => 64 * (A j).l.length + 8
theorem wgtW_succ (A : Nat → Bp) (n : Nat) : wgtW A (n + 1) = wgtW A n + (64 * (A n).l.length + 8) := rfl
def lgtW (A : Nat → Bp) (n : Nat) : Bool := decide (wgtW A n ≤ 384000) && decide (n ≤ 40)

set_option maxRecDepth 100000 in
set_option maxHeartbeats 2000000 in
theorem light_wide (ao : Option Addr) (n cap : Nat) (A : Nat → Bp) (w : World) (h : BpsAt w ao n A) (hl : ∀ j, j < n → (A j).l.length ≤ 17592186044416) :
    Calls Try.prog 9 #[.slice ao n cap] w fun e w' => e = .returned (.bool (lgtW A n)) ∧ w' = w := by
  have hn := h.len
  have HCE : Hid (∀ j, j < n → ∃ b off av cv, ao = some ⟨b, off, none⟩ ∧ w.cell? ⟨b, off + j * 3 + 2, none⟩ = some (.slice av (A j).l.length cv)) := fun j hj => by
    obtain ⟨b, off, e, hc⟩ := h.cells (by omega)
    obtain ⟨av, cv, hv, _⟩ := (h.ok j hj).hv
    exact ⟨b, off, av, cv, e, by rw [(hc j hj).2.2, hv]⟩
  have HL : Hid (∀ j, j < n → (A j).l.length ≤ 17592186044416) := hl
  have HBD : Hid (∀ j, j < n → 384000 < wgtW A (j + 1) → lgtW A n = false) := fun j hj hgt => by
    unfold lgtW
    have := sumTo_mono (fun j => 64 * (A j).l.length + 8) (show j + 1 ≤ n by omega)
    have e1 : wgtW A n = sumTo (fun j => 64 * (A j).l.length + 8) n := rfl
    have e2 : wgtW A (j + 1) = sumTo (fun j => 64 * (A j).l.length + 8) (j + 1) := rfl
    rw [decide_eq_false (by omega)]; rfl
  clear h hl
  go_enter Try.func9, Try.ntmps9
  go_wp2_with fail
  go_loopg [3, 4] n (fun q x k wr => ∃ (j X : Nat), j + q = n ∧ k = .int .i64 (j : Int) ∧ x = .int .i64 (X : Int) ∧ Hid (X = wgtW A j ∧ wgtW A j ≤ 384000) ∧ wr = w)
  case atStart => exact ⟨0, 0, by omega, rfl, rfl, ⟨rfl, Nat.zero_le _⟩, rfl⟩
  case round =>
    obtain ⟨j, X, hjq, rfl, rfl, HX, rfl⟩ := hrel
    by_cases h1 : j < n
    · have d1 : decide (j < n) = true := decide_eq_true h1
      obtain ⟨b, off, av, cv, rfl, k2⟩ := HCE.out j h1
      have hl := HL.out j h1
      have hX : X ≤ 384000 := by have := HX.out; omega
      have HN : Hid (X + (64 * (A j).l.length + 8) = wgtW A (j + 1)) := by show _ = _; rw [wgtW_succ, HX.out.1]
      have HB := HBD.out j h1
      rw [← HN.out] at HB
      have HB' : Hid _ := HB
      clear HB
      generalize (A j).l.length = nl at *
      by_cases h2 : 384000 < X + (64 * nl + 8)
      · have hff : Hid (lgtW A n = false) := HB'.out h2
        have d2 : decide ((384000 : Int) < (X : Int) + 64 * (nl : Int) + 8) = true := decide_eq_true (by omega)
        have h2i : (384000 : Int) < (X : Int) + 64 * (nl : Int) + 8 := by omega
        go_wp2_with fail
        go_ret
        refine ⟨?_, rfl⟩
        rw [hff.out]
        rfl
      · have d2 : decide ((384000 : Int) < (X : Int) + 64 * (nl : Int) + 8) = false := decide_eq_false (by omega)
        have h2i : ¬ (384000 : Int) < (X : Int) + 64 * (nl : Int) + 8 := by omega
        go_wp2_with fail
        go_roundg (n - (j + 1))
        case measure => omega
        case rel => exact ⟨j + 1, X + (64 * nl + 8), by omega, by go_num, congrArg (Value.int .i64) (by omega), ⟨HN.out, by rw [← HN.out]; omega⟩, rfl⟩
    · have d1 : decide (j < n) = false := decide_eq_false h1
      have hj : j = n := by omega
      have HLG : Hid (lgtW A n = decide (n ≤ 40)) := by
        show _ = _
        unfold lgtW
        rw [decide_eq_true (show wgtW A n ≤ 384000 by rw [← hj]; exact HX.out.2), Bool.true_and]
      by_cases h40 : n ≤ 40
      · have d40 : decide ((n : Int) ≤ 40) = true := decide_eq_true (by omega)
        rw [decide_eq_true h40] at HLG
        go_wp2_with fail
        go_ret
        refine ⟨?_, rfl⟩
        rw [HLG.out]
        rfl
      · have d40 : decide ((n : Int) ≤ 40) = false := decide_eq_false (by omega)
        rw [decide_eq_false h40] at HLG
        go_wp2_with fail
        go_ret
        refine ⟨?_, rfl⟩
        rw [HLG.out]
        rfl

/-- What 'light' lets through is small. -/
theorem lgtW_small {A : Nat → Bp} {n : Nat} (h : lgtW A n = true) : n ≤ 40 ∧ ∀ j, j < n → (A j).l.length ≤ 6000 := by
  unfold lgtW at h
  rw [Bool.and_eq_true, decide_eq_true_eq, decide_eq_true_eq] at h
  refine ⟨h.2, fun j hj => ?_⟩
  have := sumTo_mono (fun j => 64 * (A j).l.length + 8) (show j + 1 ≤ n by omega)
  have e1 : wgtW A n = sumTo (fun j => 64 * (A j).l.length + 8) n := rfl
  have e2 : sumTo (fun j => 64 * (A j).l.length + 8) (j + 1) = sumTo (fun j => 64 * (A j).l.length + 8) j + (64 * (A j).l.length + 8) := rfl
  omega
end Go.Proofs.Ytodgdbbhllejkaa
