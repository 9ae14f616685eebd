/- Package bitmap: what the other texts lack (XRefPut, XSmallish). -/
import Derived.Test.YtpfajkkjnobdlaaDoorRefPut
namespace Go.Proofs.YtpfajkkjnobdlaaDoor
open Go.RowKit


set_option maxRecDepth 100000 in
set_option maxHeartbeats 2000000 in
theorem small_any (b0 off n cap : Nat) (mo : Int) (w : World) (hn : n ≤ 1000) (hc : ∀ i, i < n → ∃ ao l c, w.cell? ⟨b0, off + i * 3 + 2, none⟩ = some (.slice ao l c)) :
    Calls Tryd.prog 19 #[.slice (some ⟨b0, off, none⟩) n cap, .int .i64 mo] w fun e w' => ∃ bb, e = .returned (.bool bb) ∧ ∃ q, w' = w.drewN q := by
  have HC : Hid (∀ i, i < n → ∃ ao l c, w.cell? ⟨b0, off + i * 3 + 2, none⟩ = some (.slice ao l c)) := hc
  clear hc
  go_enter Tryd.func19, Tryd.ntmps19
  go_wp2_with fail
  go_loopw [5, 6] (fun z i wr => ∃ (k q : Nat) (zz : Int), k ≤ n ∧ z = .int .i64 zz ∧ i = .int .i64 k ∧ wr = w.drewN q) (fun _ i _ => n - (intOf i).toNat)
  case atStart => exact ⟨0, 0, 0, Nat.zero_le _, rfl, rfl, rfl⟩
  case round =>
    obtain ⟨k, q, zz, hk, rfl, rfl, rfl⟩ := hrel
    by_cases hlt : k < n
    · obtain ⟨ao, l, c, hcx⟩ := HC.out k hlt
      go_wp2_with fail
      · go_ret
        exact ⟨false, rfl, q, rfl⟩
      · exact ⟨⟨k + 1, q, _, by omega, rfl, congrArg (Value.int .i64) (by omega), rfl⟩, by simp [intOf]; omega⟩
    · go_wp2_with fail
      go_ret
      exact ⟨true, rfl, q, rfl⟩


end Go.Proofs.YtpfajkkjnobdlaaDoor
