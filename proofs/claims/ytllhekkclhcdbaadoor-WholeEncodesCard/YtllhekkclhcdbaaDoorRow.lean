/- The rows of the table. -/
import Derived.Great.BuildSlice
import Derived.Handy
import Derived.Test.YtllhekkclhcdbaaDoorProg
import Derived.Test.YtllhekkclhcdbaaDoorArM
namespace Go.Proofs.YtllhekkclhcdbaaDoor
open Go.RowKit

def rowsA : Array Value := #[.int .u32 22017, .int .u8 1, .int .u8 1, .bool true,
  .int .u32 13313, .int .u8 2, .int .u8 6, .bool false,
  .int .u32 6145, .int .u8 3, .int .u8 9, .bool false,
  .int .u32 2753, .int .u8 4, .int .u8 12, .bool false,
  .int .u32 1313, .int .u8 5, .int .u8 29, .bool false,
  .int .u32 545, .int .u8 38, .int .u8 33, .bool false,
  .int .u32 22017, .int .u8 7, .int .u8 6, .bool true,
  .int .u32 21505, .int .u8 8, .int .u8 14, .bool false,
  .int .u32 18433, .int .u8 9, .int .u8 14, .bool false,
  .int .u32 14337, .int .u8 10, .int .u8 14, .bool false,
  .int .u32 12289, .int .u8 11, .int .u8 17, .bool false,
  .int .u32 9217, .int .u8 12, .int .u8 18, .bool false,
  .int .u32 7169, .int .u8 13, .int .u8 20, .bool false,
  .int .u32 5633, .int .u8 29, .int .u8 21, .bool false,
  .int .u32 22017, .int .u8 15, .int .u8 14, .bool true,
  .int .u32 21505, .int .u8 16, .int .u8 14, .bool false,
  .int .u32 20737, .int .u8 17, .int .u8 15, .bool false,
  .int .u32 18433, .int .u8 18, .int .u8 16, .bool false,
  .int .u32 14337, .int .u8 19, .int .u8 17, .bool false,
  .int .u32 13313, .int .u8 20, .int .u8 18, .bool false,
  .int .u32 12289, .int .u8 21, .int .u8 19, .bool false,
  .int .u32 10241, .int .u8 22, .int .u8 19, .bool false,
  .int .u32 9217, .int .u8 23, .int .u8 20, .bool false,
  .int .u32 8705, .int .u8 24, .int .u8 21, .bool false,
  .int .u32 7169, .int .u8 25, .int .u8 22, .bool false,
  .int .u32 6145, .int .u8 26, .int .u8 23, .bool false,
  .int .u32 5633, .int .u8 27, .int .u8 24, .bool false,
  .int .u32 5121, .int .u8 28, .int .u8 25, .bool false,
  .int .u32 4609, .int .u8 29, .int .u8 26, .bool false,
  .int .u32 4353, .int .u8 30, .int .u8 27, .bool false,
  .int .u32 2753, .int .u8 31, .int .u8 28, .bool false,
  .int .u32 2497, .int .u8 32, .int .u8 29, .bool false,
  .int .u32 2209, .int .u8 33, .int .u8 30, .bool false,
  .int .u32 1313, .int .u8 34, .int .u8 31, .bool false,
  .int .u32 1089, .int .u8 35, .int .u8 32, .bool false,
  .int .u32 673, .int .u8 36, .int .u8 33, .bool false,
  .int .u32 545, .int .u8 37, .int .u8 34, .bool false,
  .int .u32 321, .int .u8 38, .int .u8 35, .bool false,
  .int .u32 273, .int .u8 39, .int .u8 36, .bool false,
  .int .u32 133, .int .u8 40, .int .u8 37, .bool false,
  .int .u32 73, .int .u8 41, .int .u8 38, .bool false,
  .int .u32 37, .int .u8 42, .int .u8 39, .bool false,
  .int .u32 21, .int .u8 43, .int .u8 40, .bool false,
  .int .u32 9, .int .u8 44, .int .u8 41, .bool false,
  .int .u32 5, .int .u8 45, .int .u8 42, .bool false,
  .int .u32 1, .int .u8 45, .int .u8 43, .bool false,
  .int .u32 22017, .int .u8 46, .int .u8 46, .bool false]
def rowV (s : Nat) : Value := .agg #[.int .u32 (rQ s : Nat), .int .u8 (rM s : Nat), .int .u8 (rL s : Nat), .bool (rS s)]

theorem idx_row (w : World) : ∀ s : Nat, s < 47 → (Instr.index 141 (.agg rowsA) (.int .i64 (s : Nat))).run Tryd.prog w = .ok (rowV s) w
  | 0, _ => by kernel_rfl
  | 1, _ => by kernel_rfl
  | 2, _ => by kernel_rfl
  | 3, _ => by kernel_rfl
  | 4, _ => by kernel_rfl
  | 5, _ => by kernel_rfl
  | 6, _ => by kernel_rfl
  | 7, _ => by kernel_rfl
  | 8, _ => by kernel_rfl
  | 9, _ => by kernel_rfl
  | 10, _ => by kernel_rfl
  | 11, _ => by kernel_rfl
  | 12, _ => by kernel_rfl
  | 13, _ => by kernel_rfl
  | 14, _ => by kernel_rfl
  | 15, _ => by kernel_rfl
  | 16, _ => by kernel_rfl
  | 17, _ => by kernel_rfl
  | 18, _ => by kernel_rfl
  | 19, _ => by kernel_rfl
  | 20, _ => by kernel_rfl
  | 21, _ => by kernel_rfl
  | 22, _ => by kernel_rfl
  | 23, _ => by kernel_rfl
  | 24, _ => by kernel_rfl
  | 25, _ => by kernel_rfl
  | 26, _ => by kernel_rfl
  | 27, _ => by kernel_rfl
  | 28, _ => by kernel_rfl
  | 29, _ => by kernel_rfl
  | 30, _ => by kernel_rfl
  | 31, _ => by kernel_rfl
  | 32, _ => by kernel_rfl
  | 33, _ => by kernel_rfl
  | 34, _ => by kernel_rfl
  | 35, _ => by kernel_rfl
  | 36, _ => by kernel_rfl
  | 37, _ => by kernel_rfl
  | 38, _ => by kernel_rfl
  | 39, _ => by kernel_rfl
  | 40, _ => by kernel_rfl
  | 41, _ => by kernel_rfl
  | 42, _ => by kernel_rfl
  | 43, _ => by kernel_rfl
  | 44, _ => by kernel_rfl
  | 45, _ => by kernel_rfl
  | 46, _ => by kernel_rfl
  | n + 47, h => by omega

set_option maxRecDepth 100000 in
set_option maxHeartbeats 4000000 in
theorem row_of (w : World) (s : Nat) (hs : s < 47) : Calls Tryd.prog 86 #[.int .i64 (s : Nat)] w fun e w' => e = .returned (rowV s) ∧ ∃ o, w' = w.alloc o := by
  have hidx : ∀ w, (Instr.index 141 (.agg rowsA) (.int .i64 (s : Nat))).run Tryd.prog w = .ok (rowV s) w := fun w => idx_row w s hs
  unfold rowV at hidx ⊢
  go_enter Tryd.func86, Tryd.ntmps86
  go_wp2_with (
    refine wpList_buildTo rfl 135 _ rfl _ rfl #[.int .u32 22017, .int .u8 1, .int .u8 1, .bool true] (by kernel_rfl) ?_
    refine wpList_buildTo rfl 135 _ rfl _ rfl #[.int .u32 13313, .int .u8 2, .int .u8 6, .bool false] (by kernel_rfl) ?_
    refine wpList_buildTo rfl 135 _ rfl _ rfl #[.int .u32 6145, .int .u8 3, .int .u8 9, .bool false] (by kernel_rfl) ?_
    refine wpList_buildTo rfl 135 _ rfl _ rfl #[.int .u32 2753, .int .u8 4, .int .u8 12, .bool false] (by kernel_rfl) ?_
    refine wpList_buildTo rfl 135 _ rfl _ rfl #[.int .u32 1313, .int .u8 5, .int .u8 29, .bool false] (by kernel_rfl) ?_
    refine wpList_buildTo rfl 135 _ rfl _ rfl #[.int .u32 545, .int .u8 38, .int .u8 33, .bool false] (by kernel_rfl) ?_
    refine wpList_buildTo rfl 135 _ rfl _ rfl #[.int .u32 22017, .int .u8 7, .int .u8 6, .bool true] (by kernel_rfl) ?_
    refine wpList_buildTo rfl 135 _ rfl _ rfl #[.int .u32 21505, .int .u8 8, .int .u8 14, .bool false] (by kernel_rfl) ?_
    refine wpList_buildTo rfl 135 _ rfl _ rfl #[.int .u32 18433, .int .u8 9, .int .u8 14, .bool false] (by kernel_rfl) ?_
    refine wpList_buildTo rfl 135 _ rfl _ rfl #[.int .u32 14337, .int .u8 10, .int .u8 14, .bool false] (by kernel_rfl) ?_
    refine wpList_buildTo rfl 135 _ rfl _ rfl #[.int .u32 12289, .int .u8 11, .int .u8 17, .bool false] (by kernel_rfl) ?_
    refine wpList_buildTo rfl 135 _ rfl _ rfl #[.int .u32 9217, .int .u8 12, .int .u8 18, .bool false] (by kernel_rfl) ?_
    refine wpList_buildTo rfl 135 _ rfl _ rfl #[.int .u32 7169, .int .u8 13, .int .u8 20, .bool false] (by kernel_rfl) ?_
    refine wpList_buildTo rfl 135 _ rfl _ rfl #[.int .u32 5633, .int .u8 29, .int .u8 21, .bool false] (by kernel_rfl) ?_
    refine wpList_buildTo rfl 135 _ rfl _ rfl #[.int .u32 22017, .int .u8 15, .int .u8 14, .bool true] (by kernel_rfl) ?_
    refine wpList_buildTo rfl 135 _ rfl _ rfl #[.int .u32 21505, .int .u8 16, .int .u8 14, .bool false] (by kernel_rfl) ?_
    refine wpList_buildTo rfl 135 _ rfl _ rfl #[.int .u32 20737, .int .u8 17, .int .u8 15, .bool false] (by kernel_rfl) ?_
    refine wpList_buildTo rfl 135 _ rfl _ rfl #[.int .u32 18433, .int .u8 18, .int .u8 16, .bool false] (by kernel_rfl) ?_
    refine wpList_buildTo rfl 135 _ rfl _ rfl #[.int .u32 14337, .int .u8 19, .int .u8 17, .bool false] (by kernel_rfl) ?_
    refine wpList_buildTo rfl 135 _ rfl _ rfl #[.int .u32 13313, .int .u8 20, .int .u8 18, .bool false] (by kernel_rfl) ?_
    refine wpList_buildTo rfl 135 _ rfl _ rfl #[.int .u32 12289, .int .u8 21, .int .u8 19, .bool false] (by kernel_rfl) ?_
    refine wpList_buildTo rfl 135 _ rfl _ rfl #[.int .u32 10241, .int .u8 22, .int .u8 19, .bool false] (by kernel_rfl) ?_
    refine wpList_buildTo rfl 135 _ rfl _ rfl #[.int .u32 9217, .int .u8 23, .int .u8 20, .bool false] (by kernel_rfl) ?_
    refine wpList_buildTo rfl 135 _ rfl _ rfl #[.int .u32 8705, .int .u8 24, .int .u8 21, .bool false] (by kernel_rfl) ?_
    refine wpList_buildTo rfl 135 _ rfl _ rfl #[.int .u32 7169, .int .u8 25, .int .u8 22, .bool false] (by kernel_rfl) ?_
    refine wpList_buildTo rfl 135 _ rfl _ rfl #[.int .u32 6145, .int .u8 26, .int .u8 23, .bool false] (by kernel_rfl) ?_
    refine wpList_buildTo rfl 135 _ rfl _ rfl #[.int .u32 5633, .int .u8 27, .int .u8 24, .bool false] (by kernel_rfl) ?_
    refine wpList_buildTo rfl 135 _ rfl _ rfl #[.int .u32 5121, .int .u8 28, .int .u8 25, .bool false] (by kernel_rfl) ?_
    refine wpList_buildTo rfl 135 _ rfl _ rfl #[.int .u32 4609, .int .u8 29, .int .u8 26, .bool false] (by kernel_rfl) ?_
    refine wpList_buildTo rfl 135 _ rfl _ rfl #[.int .u32 4353, .int .u8 30, .int .u8 27, .bool false] (by kernel_rfl) ?_
    refine wpList_buildTo rfl 135 _ rfl _ rfl #[.int .u32 2753, .int .u8 31, .int .u8 28, .bool false] (by kernel_rfl) ?_
    refine wpList_buildTo rfl 135 _ rfl _ rfl #[.int .u32 2497, .int .u8 32, .int .u8 29, .bool false] (by kernel_rfl) ?_
    refine wpList_buildTo rfl 135 _ rfl _ rfl #[.int .u32 2209, .int .u8 33, .int .u8 30, .bool false] (by kernel_rfl) ?_
    refine wpList_buildTo rfl 135 _ rfl _ rfl #[.int .u32 1313, .int .u8 34, .int .u8 31, .bool false] (by kernel_rfl) ?_
    refine wpList_buildTo rfl 135 _ rfl _ rfl #[.int .u32 1089, .int .u8 35, .int .u8 32, .bool false] (by kernel_rfl) ?_
    refine wpList_buildTo rfl 135 _ rfl _ rfl #[.int .u32 673, .int .u8 36, .int .u8 33, .bool false] (by kernel_rfl) ?_
    refine wpList_buildTo rfl 135 _ rfl _ rfl #[.int .u32 545, .int .u8 37, .int .u8 34, .bool false] (by kernel_rfl) ?_
    refine wpList_buildTo rfl 135 _ rfl _ rfl #[.int .u32 321, .int .u8 38, .int .u8 35, .bool false] (by kernel_rfl) ?_
    refine wpList_buildTo rfl 135 _ rfl _ rfl #[.int .u32 273, .int .u8 39, .int .u8 36, .bool false] (by kernel_rfl) ?_
    refine wpList_buildTo rfl 135 _ rfl _ rfl #[.int .u32 133, .int .u8 40, .int .u8 37, .bool false] (by kernel_rfl) ?_
    refine wpList_buildTo rfl 135 _ rfl _ rfl #[.int .u32 73, .int .u8 41, .int .u8 38, .bool false] (by kernel_rfl) ?_
    refine wpList_buildTo rfl 135 _ rfl _ rfl #[.int .u32 37, .int .u8 42, .int .u8 39, .bool false] (by kernel_rfl) ?_
    refine wpList_buildTo rfl 135 _ rfl _ rfl #[.int .u32 21, .int .u8 43, .int .u8 40, .bool false] (by kernel_rfl) ?_
    refine wpList_buildTo rfl 135 _ rfl _ rfl #[.int .u32 9, .int .u8 44, .int .u8 41, .bool false] (by kernel_rfl) ?_
    refine wpList_buildTo rfl 135 _ rfl _ rfl #[.int .u32 5, .int .u8 45, .int .u8 42, .bool false] (by kernel_rfl) ?_
    refine wpList_buildTo rfl 135 _ rfl _ rfl #[.int .u32 1, .int .u8 45, .int .u8 43, .bool false] (by kernel_rfl) ?_
    refine wpList_buildTo rfl 135 _ rfl _ rfl #[.int .u32 22017, .int .u8 46, .int .u8 46, .bool false] (by kernel_rfl) ?_
    refine wpList_buildTo rfl 141 _ rfl _ rfl rowsA (by kernel_rfl) ?_)
  go_returns
  exact ⟨rfl, _, rfl⟩

end Go.Proofs.YtllhekkclhcdbaaDoor
