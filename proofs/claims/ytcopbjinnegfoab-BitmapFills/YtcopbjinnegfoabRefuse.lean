/- What 'Blit' refuses. -/
import Derived.Test.YtcopbjinnegfoabBlits
namespace Go.Proofs.Ytcopbjinnegfoab
open Go.RowKit

set_option maxRecDepth 100000 in
set_option maxHeartbeats 1000000 in
theorem blit_rect (b bs : Nat) (sx sy ww hh dx dy op : Int) (w : World) (h : ww < 0 ∨ hh < 0) :
    Calls Try.prog 11 #[.pointer (some ⟨b, 0, none⟩), .pointer (some ⟨bs, 0, none⟩), .int .i64 sx, .int .i64 sy, .int .i64 ww, .int .i64 hh, .int .i64 dx, .int .i64 dy, .int .i64 op] w fun e w' => e = .returned (.int .i64 24) ∧ w' = w := by
  by_cases h1 : ww < 0
  · go_enter Try.func11, Try.ntmps11
    go_wp2_with fail
    go_ret
    exact ⟨rfl, rfl⟩
  · have h2 : hh < 0 := by omega
    clear h
    go_enter Try.func11, Try.ntmps11
    go_wp2_with fail
    go_ret
    exact ⟨rfl, rfl⟩

set_option maxRecDepth 100000 in
set_option maxHeartbeats 2000000 in
theorem blit_op (b bs : Nat) (sx sy ww hh dx dy op : Int) (w : World) (b3 : 0 ≤ ww) (b4 : 0 ≤ hh) (ho : op < 0 ∨ 4 < op) :
    Calls Try.prog 11 #[.pointer (some ⟨b, 0, none⟩), .pointer (some ⟨bs, 0, none⟩), .int .i64 sx, .int .i64 sy, .int .i64 ww, .int .i64 hh, .int .i64 dx, .int .i64 dy, .int .i64 op] w fun e w' => e = .returned (.int .i64 25) ∧ Fr (fun _ => False) w w' := by
  have hsf : ∀ (w : World) (a : Addr) (m : Mode) (fn : Fn) (x y : Array Value), (store a (.func fn x y) m).run Try.prog w = stored Try.prog w a (.func fn x y) m := fun w a m fn x y => run_store _ w a _ m rfl
  have HOP : Hid (op < 0 ∨ 4 < op) := ho
  clear ho
  go_enter Try.func11, Try.ntmps11
  go_wp2_with fail
  refine (operations_any _).mono ?_
  rintro e w1 ⟨rfl, hw1⟩
  have HO : Hid (w1.heap[w.heap.size]? = some (.cells opsRow 65 (0, 0))) := by show _ = _; rw [hw1]; exact heap_alloc_new _ _
  have HF1 : Hid (Fr (fun _ => False) w w1) := by rw [hw1]; exact (Fr.refl _ _).alloc _
  have hsz : w.heap.size < w1.heap.size := by rw [hw1]; simp
  clear hw1
  go_wp2_with fail
  go_loopw [31] (fun i wr => ∃ k : Nat, k ≤ 5 ∧ i = .int .i64 k ∧ Fr (fun _ => False) w1 wr) (fun i _ => 5 - (intOf i).toNat)
  case atStart => exact ⟨0, Nat.zero_le _, rfl, Fr.refl _ _⟩
  case round =>
    obtain ⟨k, hk, rfl, hfr⟩ := hrel
    have HF : Hid (Fr (fun _ => False) w1 wr) := hfr
    by_cases hlt : k < 5
    · obtain ⟨c0, c1⟩ := opsRow_cells wr w.heap.size (by rw [hfr.block _ hsz (fun x => x)]; exact HO.out) k (by omega)
      clear hfr
      have hkq : ((k : Int) == op) = false := by
        have := HOP.out
        rw [beq_eq_false_iff_ne]
        omega
      go_wp2_with fail
      go_roundw
      case rel => exact ⟨k + 1, by omega, congrArg (Value.int .i64) (by omega), HF.out.alloc _⟩
      case measure => simp [intOf]; omega
    · clear hfr
      go_wp2_with fail
      go_ret
      exact ⟨rfl, HF1.out.trans HF.out (fun _ _ hh => hh)⟩

end Go.Proofs.Ytcopbjinnegfoab
