/- The reference's 'likely', 'other'. -/
import Derived.Test.YtllhekkclhcdbaaDoorRe
namespace Go.Proofs.YtllhekkclhcdbaaDoor
open Go.RowKit

theorem tabCells_get : ∀ k s, s < k → (tabCells k)[s * 4]? = some (.int .i64 (rQ s : Nat)) ∧ (tabCells k)[s * 4 + 1]? = some (.int .i64 (rM s : Nat)) ∧ (tabCells k)[s * 4 + 2]? = some (.int .i64 (rL s : Nat)) ∧ (tabCells k)[s * 4 + 3]? = some (.bool (rS s))
  | 0, s, h => by omega
  | k + 1, s, h => by
    have hl := length_tabCells k
    unfold tabCells
    by_cases hs : s < k
    · rw [List.getElem?_append_left (by omega), List.getElem?_append_left (by omega), List.getElem?_append_left (by omega), List.getElem?_append_left (by omega)]
      exact tabCells_get k s hs
    · have e : s = k := by omega
      subst e
      rw [List.getElem?_append_right (by omega), List.getElem?_append_right (by omega), List.getElem?_append_right (by omega), List.getElem?_append_right (by omega), hl, Nat.sub_self, show s * 4 + 1 - s * 4 = 1 by omega, show s * 4 + 2 - s * 4 = 2 by omega, show s * 4 + 3 - s * 4 = 3 by omega]
      exact ⟨rfl, rfl, rfl, rfl⟩

set_option maxRecDepth 100000 in
set_option maxHeartbeats 2000000 in
theorem rlikely_at (w : World) (br gt ct gs n k s m : Nat) (hk : k < n) (_ : n ≤ 131072) (hs : s < 47) (e0 : w.cell? ⟨br, 0, none⟩ = some (.slice (some ⟨gt, 0, none⟩) 47 ct)) (e1 : w.cell? ⟨br, 1, none⟩ = some (.slice (some ⟨gs, 0, none⟩) n n)) (cs : w.cell? ⟨gs, k, none⟩ = some (.int .i64 (s : Nat))) (cm : w.cell? ⟨gt, s * 4 + 1, none⟩ = some (.int .i64 (m : Nat))) (cf : w.frozen? ⟨gs, k, none⟩ = false) :
    Calls Tryd.prog 66 #[.pointer (some ⟨br, 0, none⟩), .int .i64 (k : Nat)] w fun e w' => e = .returned (.tuple #[]) ∧ w' = (w.setCell ⟨gs, k, none⟩ (.int .i64 (m : Nat))).drew := by
  go_enter Tryd.func66, Tryd.ntmps66
  go_wp2_with fail
  go_region
  go_wp2_with fail
  go_end0
  exact ⟨rfl, rfl⟩

set_option maxRecDepth 100000 in
set_option maxHeartbeats 4000000 in
/-- The likelier bit stays. -/
theorem rother_keep (w : World) (br gt ct gs gz n k s q m l z : Nat) (hk : k < n) (_ : n ≤ 131072) (hr : IsRow s q m l false) (_ : z < 2) (_ : gs ≠ gz) (e0 : w.cell? ⟨br, 0, none⟩ = some (.slice (some ⟨gt, 0, none⟩) 47 ct)) (e1 : w.cell? ⟨br, 1, none⟩ = some (.slice (some ⟨gs, 0, none⟩) n n)) (_ : w.cell? ⟨br, 2, none⟩ = some (.slice (some ⟨gz, 0, none⟩) n n)) (cs : w.cell? ⟨gs, k, none⟩ = some (.int .i64 (s : Nat))) (cz : w.cell? ⟨gz, k, none⟩ = some (.int .i64 (z : Nat)))
    (cq : w.cell? ⟨gt, s * 4, none⟩ = some (.int .i64 (q : Nat))) (cm : w.cell? ⟨gt, s * 4 + 1, none⟩ = some (.int .i64 (m : Nat))) (cl : w.cell? ⟨gt, s * 4 + 2, none⟩ = some (.int .i64 (l : Nat))) (cb : w.cell? ⟨gt, s * 4 + 3, none⟩ = some (.bool false)) (cf : w.frozen? ⟨gs, k, none⟩ = false) (_ : w.frozen? ⟨gz, k, none⟩ = false) (_ : gs ≠ br) (_ : gz ≠ br) (_ : gz ≠ gt) :
    Calls Tryd.prog 67 #[.pointer (some ⟨br, 0, none⟩), .int .i64 (k : Nat)] w fun e w' => e = .returned (.tuple #[]) ∧ Fr (fun _ => False) (w.setCell ⟨gs, k, none⟩ (.int .i64 (l : Nat))) w' := by
  obtain ⟨b1, b2, b3, b4⟩ := hr.bd
  have hs := hr.hs
  clear hr
  have x1 : br < w.heap.size := World.block_lt_of_cell? w ⟨br, 0, none⟩ e0
  have x2 : gs < w.heap.size := World.block_lt_of_cell? w ⟨gs, k, none⟩ cs
  have x3 : gz < w.heap.size := World.block_lt_of_cell? w ⟨gz, k, none⟩ cz
  have x4 : gt < w.heap.size := World.block_lt_of_cell? w ⟨gt, s * 4, none⟩ cq
  go_enter Tryd.func67, Tryd.ntmps67
  go_wp2_with fail
  go_region
  go_wp2_with fail
  go_region
  all_goals
    go_wp2_with fail
    go_end0
    exact ⟨rfl, (((Fr.refl _ _).alloc _).drew).drew⟩

set_option maxRecDepth 100000 in
set_option maxHeartbeats 4000000 in
/-- The likelier bit changes. -/
theorem rother_turn (w : World) (br gt ct gs gz n k s q m l z : Nat) (hk : k < n) (_ : n ≤ 131072) (hr : IsRow s q m l true) (hz : z < 2) (_ : gs ≠ gz) (e0 : w.cell? ⟨br, 0, none⟩ = some (.slice (some ⟨gt, 0, none⟩) 47 ct)) (e1 : w.cell? ⟨br, 1, none⟩ = some (.slice (some ⟨gs, 0, none⟩) n n)) (e2 : w.cell? ⟨br, 2, none⟩ = some (.slice (some ⟨gz, 0, none⟩) n n)) (cs : w.cell? ⟨gs, k, none⟩ = some (.int .i64 (s : Nat))) (cz : w.cell? ⟨gz, k, none⟩ = some (.int .i64 (z : Nat)))
    (cq : w.cell? ⟨gt, s * 4, none⟩ = some (.int .i64 (q : Nat))) (cm : w.cell? ⟨gt, s * 4 + 1, none⟩ = some (.int .i64 (m : Nat))) (cl : w.cell? ⟨gt, s * 4 + 2, none⟩ = some (.int .i64 (l : Nat))) (cb : w.cell? ⟨gt, s * 4 + 3, none⟩ = some (.bool true)) (cf : w.frozen? ⟨gs, k, none⟩ = false) (cfz : w.frozen? ⟨gz, k, none⟩ = false) (_ : gs ≠ br) (_ : gz ≠ br) (_ : gz ≠ gt) :
    Calls Tryd.prog 67 #[.pointer (some ⟨br, 0, none⟩), .int .i64 (k : Nat)] w fun e w' => e = .returned (.tuple #[]) ∧ Fr (fun _ => False) ((w.setCell ⟨gz, k, none⟩ (.int .i64 ((1 - z : Nat) : Int))).setCell ⟨gs, k, none⟩ (.int .i64 (l : Nat))) w' := by
  obtain ⟨b1, b2, b3, b4⟩ := hr.bd
  have hs := hr.hs
  clear hr
  have x1 : br < w.heap.size := World.block_lt_of_cell? w ⟨br, 0, none⟩ e0
  have x2 : gs < w.heap.size := World.block_lt_of_cell? w ⟨gs, k, none⟩ cs
  have x3 : gz < w.heap.size := World.block_lt_of_cell? w ⟨gz, k, none⟩ cz
  have x4 : gt < w.heap.size := World.block_lt_of_cell? w ⟨gt, s * 4, none⟩ cq
  obtain ⟨z1, HZ1⟩ : ∃ z1, Hid (z1 = 1 - z) := ⟨_, rfl⟩
  have hz1 : (1 : Int) - (z : Int) = (z1 : Int) := by rw [HZ1.out]; omega
  rw [← HZ1.out]
  go_enter Tryd.func67, Tryd.ntmps67
  go_wp2_with fail
  go_region
  go_wp2_with fail
  go_region
  all_goals
    go_wp2_with fail
    go_region
    all_goals
      go_wp2_with fail
      go_end0
      exact ⟨rfl, ((((Fr.refl _ _).alloc _).drew).drew).drew⟩

end Go.Proofs.YtllhekkclhcdbaaDoor
