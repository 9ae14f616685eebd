/- 'New' of a wrong number. -/
import Derived.Test.YtmfpoabhmpljgaaK13
namespace Go.Proofs.Ytmfpoabhmpljgaa
open Go.RowKit

theorem new_bad (w : World) (n : Int) (h : n < 1 ∨ 131072 < n) :
    Calls Try.prog 27 #[.int .i64 n] w fun e w' => e = .returned (.tuple #[.pointer none, .int .i64 40]) ∧ w' = w := by
  have HT : Hid (∀ w, Calls Try.prog 44 #[.int .i64 n] w fun e w' => e = .returned (.bool false) ∧ w' = w) := fun w => isTable_at w n false (by rw [eq_comm]; exact decide_eq_false (by omega))
  clear h
  go_enter Try.func27, Try.ntmps27
  go_wp2_with fail
  refine (HT.out _).mono ?_
  rintro e w1 ⟨rfl, hw⟩
  obtain rfl := hw.symm
  go_wp2_with fail
  go_ret2
  exact ⟨rfl, rfl⟩

end Go.Proofs.Ytmfpoabhmpljgaa
