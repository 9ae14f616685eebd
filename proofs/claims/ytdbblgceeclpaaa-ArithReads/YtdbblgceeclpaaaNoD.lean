/- 'NewDecoder' of a wrong number. -/
import Derived.Test.YtdbblgceeclpaaaGet
namespace Go.Proofs.Ytdbblgceeclpaaa
open Go.RowKit

theorem newDecoder_bad (w : World) (v : Value) (n : Int) (hv : ∃ a l c, v = .slice a l c) (h : n < 1 ∨ 131072 < n) :
    Calls Try.prog 13 #[v, .int .i64 n] w fun e w' => e = .returned (.tuple #[.pointer none, .int .i64 40]) ∧ w' = w := by
  have HT : Hid (∀ w, Calls Try.prog 29 #[.int .i64 n] w fun e w' => e = .returned (.bool false) ∧ w' = w) := fun w => isTable_at w n false (by rw [eq_comm]; exact decide_eq_false (by omega))
  obtain ⟨a, l, c, rfl⟩ := hv
  clear h
  go_enter Try.func13, Try.ntmps13
  go_wp2_with fail
  refine (HT.out _).mono ?_
  rintro e w1 ⟨rfl, hw⟩
  obtain rfl := hw.symm
  go_wp2_with fail
  go_ret2
  exact ⟨rfl, rfl⟩

end Go.Proofs.Ytdbblgceeclpaaa
