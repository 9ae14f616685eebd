/- The reference's page: MaySheet, mayOp; the page in memory. -/
import Derived.Test.YtejempbgpkeheaaSq
import Derived.Test.YtejempbgpkeheaaMay
namespace Go.Proofs.Ytejempbgpkeheaa
open Go.RowKit

theorem cell_of_nine {w : World} {b : Nat} {x0 x1 x2 x3 x4 x5 x6 x7 x8 : Value} {t : TypeId} (h : w.heap[b]? = some (.cells #[x0, x1, x2, x3, x4, x5, x6, x7, x8] t (0, 0))) :
    w.cell? ⟨b, 0, none⟩ = some x0 ∧ w.cell? ⟨b, 1, none⟩ = some x1 ∧ w.cell? ⟨b, 2, none⟩ = some x2 ∧ w.cell? ⟨b, 3, none⟩ = some x3 ∧ w.cell? ⟨b, 4, none⟩ = some x4 ∧ w.cell? ⟨b, 5, none⟩ = some x5 ∧ w.cell? ⟨b, 6, none⟩ = some x6 ∧ w.cell? ⟨b, 7, none⟩ = some x7 ∧ w.cell? ⟨b, 8, none⟩ = some x8 ∧ (∀ j, w.frozen? ⟨b, j, none⟩ = false) := by
  refine ⟨?_, ?_, ?_, ?_, ?_, ?_, ?_, ?_, ?_, fun j => ?_⟩ <;> simp [World.cell?, World.frozen?, h]

/-- The reference's page: its block r, its words' block g, N of them. -/
structure RpAt (w : World) (r g N W H d s n : Nat) (dn : Bool) (P : Nat → Nat → Bool) : Prop where
  blk : w.heap[r]? = some (.cells #[.int .i64 W, .int .i64 H, .int .i64 d, .int .i64 s, .int .i64 W, .int .i64 H, .slice (some ⟨g, 0, none⟩) N N, .int .i64 n, .bool dn] 42 (0, 0))
  row : RB w g N W H P
  rg : r ≠ g
  w1 : 1 ≤ W
  h1 : 1 ≤ H
  a1 : W * H ≤ 1048576
  nl : n ≤ H
  sl : s ≤ 1048576
theorem RpAt.lt {w : World} {r g N W H d s n : Nat} {dn : Bool} {P : Nat → Nat → Bool} (h : RpAt w r g N W H d s n dn P) : r < w.heap.size := lt_of_block h.blk
theorem RpAt.kept {S : Nat → Prop} {w w' : World} {r g N W H d s n : Nat} {dn : Bool} {P : Nat → Nat → Bool} (h : RpAt w r g N W H d s n dn P) (f : Fr S w w') (h1 : ¬ S r) (h2 : ¬ S g) : RpAt w' r g N W H d s n dn P :=
  ⟨by rw [f.block r h.lt h1]; exact h.blk, h.row.kept f h2, h.rg, h.w1, h.h1, h.a1, h.nl, h.sl⟩
theorem RpAt.same {w w' : World} {r g N W H d s n : Nat} {dn : Bool} {P : Nat → Nat → Bool} (h : RpAt w r g N W H d s n dn P) (f : Fr (fun _ => False) w w') : RpAt w' r g N W H d s n dn P := h.kept f (fun h => h) (fun h => h)
theorem RpAt.pix {w : World} {r g N W H d s n : Nat} {dn : Bool} {P Q : Nat → Nat → Bool} (h : RpAt w r g N W H d s n dn P) (e : ∀ x y, x < W → y < H → P x y = Q x y) : RpAt w r g N W H d s n dn Q := ⟨h.blk, h.row.pix e, h.rg, h.w1, h.h1, h.a1, h.nl, h.sl⟩

set_option maxRecDepth 100000 in
set_option maxHeartbeats 1000000 in
theorem rOp_any (x : Int) (w : World) : Calls Try.prog 36 #[.int .i64 x] w fun e w' => e = .returned (.bool (opOK x)) ∧ w' = w := by
  go_enter Try.func36, Try.ntmps36
  by_cases h0 : 0 ≤ x
  · go_wp2
    go_ret
    exact ⟨by simp [opOK]; omega, rfl⟩
  · go_wp2
    go_ret
    exact ⟨by simp [opOK]; omega, rfl⟩

theorem four_new (w : World) (x y z u : Value) (t : TypeId) : (w.alloc (.cells #[x, y, z, u] t)).heap[w.heap.size]? = some (.cells #[x, y, z, u] t (0, 0)) := heap_alloc_new _ _

set_option maxRecDepth 100000 in
set_option maxHeartbeats 2000000 in
theorem rSheet_any (W H d s : Int) (w : World) (hx : I64 W) (hy : I64 H) :
    Calls Try.prog 7 #[.agg #[.int .i64 W, .int .i64 H, .int .i64 d, .int .i64 s]] w fun e w' => e = .returned (.bool (sheetOK W H d s)) ∧ Fr (fun _ => False) w w' := by
  have HS : Hid (∀ w : World, Calls Try.prog 25 #[.int .i64 W, .int .i64 H] w fun e w' => e = .returned (.bool (sizeOK W H)) ∧ w' = w) := fun w => zSize_any W H w hx hy
  clear hx hy
  have HF : Hid (Fr (fun _ => False) w (w.alloc (.cells #[.int .i64 W, .int .i64 H, .int .i64 d, .int .i64 s] 23))) := (Fr.refl _ _).alloc _
  obtain ⟨c0, c1, c2, c3, cf⟩ := cell_of_four (four_new w (.int .i64 W) (.int .i64 H) (.int .i64 d) (.int .i64 s) 23)
  cases h1 : sizeOK W H with
  | false =>
    go_enter Try.func7, Try.ntmps7
    go_wp2_with fail
    refine (HS.out _).mono ?_
    rintro e w1 ⟨rfl, rfl⟩
    rw [h1]
    go_wp2_with fail
    go_ret
    exact ⟨by simp [sheetOK, h1], HF.out⟩
  | true =>
    by_cases k0 : d = 0
    · subst k0
      have e2 : sheetOK W H 0 s = cntOK s := by simp [sheetOK, h1, bitOK]
      rw [e2]
      by_cases k2 : 0 ≤ s
      · go_enter Try.func7, Try.ntmps7
        go_wp2_with fail
        refine (HS.out _).mono ?_
        rintro e w1 ⟨rfl, rfl⟩
        rw [h1]
        go_wp2_with fail
        go_ret
        exact ⟨by simp [cntOK, k2], HF.out⟩
      · go_enter Try.func7, Try.ntmps7
        go_wp2_with fail
        refine (HS.out _).mono ?_
        rintro e w1 ⟨rfl, rfl⟩
        rw [h1]
        go_wp2_with fail
        go_ret
        exact ⟨by simp [cntOK]; omega, HF.out⟩
    · by_cases k1 : d = 1
      · subst k1
        have e2 : sheetOK W H 1 s = cntOK s := by simp [sheetOK, h1, bitOK]
        rw [e2]
        by_cases k2 : 0 ≤ s
        · go_enter Try.func7, Try.ntmps7
          go_wp2_with fail
          refine (HS.out _).mono ?_
          rintro e w1 ⟨rfl, rfl⟩
          rw [h1]
          go_wp2_with fail
          go_ret
          exact ⟨by simp [cntOK, k2], HF.out⟩
        · go_enter Try.func7, Try.ntmps7
          go_wp2_with fail
          refine (HS.out _).mono ?_
          rintro e w1 ⟨rfl, rfl⟩
          rw [h1]
          go_wp2_with fail
          go_ret
          exact ⟨by simp [cntOK]; omega, HF.out⟩
      · have e2 : sheetOK W H d s = false := by simp [sheetOK, bitOK, k0, k1]
        rw [e2]
        go_enter Try.func7, Try.ntmps7
        go_wp2_with fail
        refine (HS.out _).mono ?_
        rintro e w1 ⟨rfl, rfl⟩
        rw [h1]
        go_wp2_with fail
        go_ret
        exact ⟨rfl, HF.out⟩

end Go.Proofs.Ytejempbgpkeheaa
