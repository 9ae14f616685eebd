/- What 'Put' and 'Flush' refuse, the program's and the reference's. -/
import Derived.Test.YtmfpoabhmpljgaaKReN
namespace Go.Proofs.Ytmfpoabhmpljgaa
open Go.RowKit

set_option maxRecDepth 100000 in
set_option maxHeartbeats 1000000 in
theorem put_done (w : World) (bc : Nat) (i b : Int) (e6 : w.cell? ⟨bc, 6, none⟩ = some (.bool true)) :
    Calls Try.prog 55 #[.pointer (some ⟨bc, 0, none⟩), .int .i64 i, .int .i64 b] w fun e w' => e = .returned (.int .i64 43) ∧ w' = w := by
  go_enter Try.func55, Try.ntmps55
  go_wp2_with fail
  go_ret
  exact ⟨rfl, rfl⟩

set_option maxRecDepth 100000 in
set_option maxHeartbeats 1000000 in
theorem put_bit (w : World) (bc : Nat) (i b : Int) (h0 : b ≠ 0) (h1 : b ≠ 1) (e6 : w.cell? ⟨bc, 6, none⟩ = some (.bool false)) :
    Calls Try.prog 55 #[.pointer (some ⟨bc, 0, none⟩), .int .i64 i, .int .i64 b] w fun e w' => e = .returned (.int .i64 42) ∧ w' = w := by
  have q0 : (b != 0) = true := by rw [bne_iff_ne]; exact h0
  have q1 : (b != 1) = true := by rw [bne_iff_ne]; exact h1
  clear h0 h1
  go_enter Try.func55, Try.ntmps55
  go_wp2_with fail
  go_ret
  exact ⟨rfl, rfl⟩

set_option maxRecDepth 100000 in
set_option maxHeartbeats 1000000 in
theorem flush_done (w : World) (bc : Nat) (e6 : w.cell? ⟨bc, 6, none⟩ = some (.bool true)) :
    Calls Try.prog 31 #[.pointer (some ⟨bc, 0, none⟩)] w fun e w' => e = .returned (.tuple #[.slice none 0 0, .int .i64 43]) ∧ w' = w := by
  go_enter Try.func31, Try.ntmps31
  go_wp2_with fail
  go_ret2
  exact ⟨rfl, rfl⟩

set_option maxRecDepth 100000 in
set_option maxHeartbeats 1000000 in
theorem rput_bit (w : World) (br : Nat) (i b : Int) (h0 : b ≠ 0) (h1 : b ≠ 1) (e8 : w.cell? ⟨br, 8, none⟩ = some (.bool false)) :
    Calls Try.prog 56 #[.pointer (some ⟨br, 0, none⟩), .int .i64 i, .int .i64 b] w fun e w' => e = .returned (.int .i64 42) ∧ w' = w := by
  have q0 : (b != 0) = true := by rw [bne_iff_ne]; exact h0
  have q1 : (b != 1) = true := by rw [bne_iff_ne]; exact h1
  clear h0 h1
  go_enter Try.func56, Try.ntmps56
  go_wp2_with fail
  go_ret
  exact ⟨rfl, rfl⟩

end Go.Proofs.Ytmfpoabhmpljgaa
