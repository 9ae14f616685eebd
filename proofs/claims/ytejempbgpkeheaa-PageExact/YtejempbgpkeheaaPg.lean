/- Package page: sizes, bits, counts, operations, sheets; a page in memory. -/
import Derived.Test.YtejempbgpkeheaaFi
import Derived.Test.YtejempbgpkeheaaBe
import Derived.Test.YtejempbgpkeheaaFm
namespace Go.Proofs.Ytejempbgpkeheaa
open Go.RowKit

abbrev I64 (x : Int) : Prop := -9223372036854775808 ≤ x ∧ x ≤ 9223372036854775807

set_option maxRecDepth 100000 in
set_option maxHeartbeats 1000000 in
theorem pSize_any (x y : Int) (w : World) (hx : I64 x) (hy : I64 y) :
    Calls Try.prog 44 #[.int .i64 x, .int .i64 y] w fun e w' => e = .returned (.bool (sizeOK x y)) ∧ w' = w := by
  obtain ⟨hx1, hx2⟩ := hx
  obtain ⟨hy1, hy2⟩ := hy
  go_enter Try.func44, Try.ntmps44
  by_cases h0 : 1 ≤ x
  · by_cases h1 : 1 ≤ y
    · go_wp2
      go_ret
      exact ⟨by rw [← sizeOK_of x y h0 h1]; rfl, rfl⟩
    · go_wp2
      go_ret
      exact ⟨by simp [sizeOK]; omega, rfl⟩
  · go_wp2
    go_ret
    exact ⟨by simp [sizeOK]; omega, rfl⟩

def bitOK (x : Int) : Bool := decide (x = 0 ∨ x = 1)
def cntOK (x : Int) : Bool := decide (0 ≤ x ∧ x ≤ 1048576)
def opOK (x : Int) : Bool := decide (0 ≤ x ∧ x ≤ 4)

set_option maxRecDepth 100000 in
set_option maxHeartbeats 1000000 in
theorem pBit_any (x : Int) (w : World) : Calls Try.prog 45 #[.int .i64 x] w fun e w' => e = .returned (.bool (bitOK x)) ∧ w' = w := by
  go_enter Try.func45, Try.ntmps45
  by_cases h0 : x = 0
  · subst h0
    go_wp2
    go_ret
    exact ⟨by simp [bitOK], rfl⟩
  · by_cases h1 : x = 1
    · subst h1
      go_wp2
      go_ret
      exact ⟨by simp [bitOK], rfl⟩
    · go_wp2
      go_ret
      exact ⟨by simp [bitOK, h0, h1], rfl⟩

set_option maxRecDepth 100000 in
set_option maxHeartbeats 1000000 in
theorem pCount_any (x : Int) (w : World) : Calls Try.prog 46 #[.int .i64 x] w fun e w' => e = .returned (.bool (cntOK x)) ∧ w' = w := by
  go_enter Try.func46, Try.ntmps46
  by_cases h0 : 0 ≤ x
  · go_wp2
    go_ret
    exact ⟨by simp [cntOK]; omega, rfl⟩
  · go_wp2
    go_ret
    exact ⟨by simp [cntOK]; omega, rfl⟩

set_option maxRecDepth 100000 in
set_option maxHeartbeats 1000000 in
theorem pOp_any (x : Int) (w : World) : Calls Try.prog 30 #[.int .i64 x] w fun e w' => e = .returned (.bool (opOK x)) ∧ w' = w := by
  go_enter Try.func30, Try.ntmps30
  by_cases h0 : 0 ≤ x
  · go_wp2
    go_ret
    exact ⟨by simp [opOK]; omega, rfl⟩
  · go_wp2
    go_ret
    exact ⟨by simp [opOK]; omega, rfl⟩

def sheetOK (W H d s : Int) : Bool := sizeOK W H && bitOK d && cntOK s

set_option maxRecDepth 100000 in
set_option maxHeartbeats 1000000 in
theorem pSheet_any (W H d s : Int) (w : World) (hx : I64 W) (hy : I64 H) :
    Calls Try.prog 26 #[.agg #[.int .i64 W, .int .i64 H, .int .i64 d, .int .i64 s]] w fun e w' => e = .returned (.bool (sheetOK W H d s)) ∧ Fr (fun _ => False) w w' := by
  have HS : Hid (∀ w : World, Calls Try.prog 44 #[.int .i64 W, .int .i64 H] w fun e w' => e = .returned (.bool (sizeOK W H)) ∧ w' = w) := fun w => pSize_any W H w hx hy
  clear hx hy
  cases h1 : sizeOK W H with
  | false =>
    go_enter Try.func26, Try.ntmps26
    go_wp2_with fail
    refine (HS.out _).mono ?_
    rintro e w1 ⟨rfl, rfl⟩
    rw [h1]
    go_wp2_with fail
    go_ret
    exact ⟨by simp [sheetOK, h1], (Fr.refl _ _).alloc _⟩
  | true =>
    cases h2 : bitOK d with
    | false =>
      go_enter Try.func26, Try.ntmps26
      go_wp2_with fail
      refine (HS.out _).mono ?_
      rintro e w1 ⟨rfl, rfl⟩
      rw [h1]
      go_wp2_with fail
      refine (pBit_any d _).mono ?_
      rintro e w1 ⟨rfl, rfl⟩
      rw [h2]
      go_wp2_with fail
      go_ret
      exact ⟨by simp [sheetOK, h1, h2], (Fr.refl _ _).alloc _⟩
    | true =>
      go_enter Try.func26, Try.ntmps26
      go_wp2_with fail
      refine (HS.out _).mono ?_
      rintro e w1 ⟨rfl, rfl⟩
      rw [h1]
      go_wp2_with fail
      refine (pBit_any d _).mono ?_
      rintro e w1 ⟨rfl, rfl⟩
      rw [h2]
      go_wp2_with fail
      refine (pCount_any s _).mono ?_
      rintro e w1 ⟨rfl, rfl⟩
      go_wp2_with fail
      go_ret
      exact ⟨by simp [sheetOK, h1, h2], (Fr.refl _ _).alloc _⟩

/-- A block of six cells. -/
theorem cell_of_six {w : World} {b : Nat} {x y z u v t : Value} {ty : TypeId} (h : w.heap[b]? = some (.cells #[x, y, z, u, v, t] ty (0, 0))) :
    w.cell? ⟨b, 0, none⟩ = some x ∧ w.cell? ⟨b, 1, none⟩ = some y ∧ w.cell? ⟨b, 2, none⟩ = some z ∧ w.cell? ⟨b, 3, none⟩ = some u ∧ w.cell? ⟨b, 4, none⟩ = some v ∧ w.cell? ⟨b, 5, none⟩ = some t ∧ (∀ j, w.frozen? ⟨b, j, none⟩ = false) := by
  refine ⟨?_, ?_, ?_, ?_, ?_, ?_, fun j => ?_⟩ <;> simp [World.cell?, World.frozen?, h]

/-- A page that has not ended: its block p, its map's block b and the words' block g; of width W, height H, default d, stripes of s rows, n its first row that is not ended. -/
structure PgAt (w : World) (p b g cap W H d s n : Nat) (P : Nat → Nat → Bool) : Prop where
  blk : w.heap[p]? = some (.cells #[.int .i64 W, .int .i64 H, .int .i64 d, .int .i64 s, .int .i64 n, .pointer (some ⟨b, 0, none⟩)] 61 (0, 0))
  map : MapAt w b g cap W H P
  pg : p ≠ g
  nl : n ≤ H
  sl : s ≤ 1048576

theorem PgAt.lt {w : World} {p b g cap W H d s n : Nat} {P : Nat → Nat → Bool} (h : PgAt w p b g cap W H d s n P) : p < w.heap.size := lt_of_block h.blk
theorem PgAt.pb {w : World} {p b g cap W H d s n : Nat} {P : Nat → Nat → Bool} (h : PgAt w p b g cap W H d s n P) : p ≠ b := by
  intro e
  subst e
  have h1 := h.blk
  rw [h.map.blk] at h1
  simp at h1
theorem PgAt.kept {S : Nat → Prop} {w w' : World} {p b g cap W H d s n : Nat} {P : Nat → Nat → Bool} (h : PgAt w p b g cap W H d s n P) (f : Fr S w w') (h1 : ¬ S p) (h2 : ¬ S b) (h3 : ¬ S g) : PgAt w' p b g cap W H d s n P :=
  ⟨by rw [f.block p h.lt h1]; exact h.blk, h.map.kept f h2 h3, h.pg, h.nl, h.sl⟩
theorem PgAt.pix {w : World} {p b g cap W H d s n : Nat} {P Q : Nat → Nat → Bool} (h : PgAt w p b g cap W H d s n P) (e : ∀ x y, x < W → y < H → P x y = Q x y) : PgAt w p b g cap W H d s n Q :=
  ⟨h.blk, h.map.pix e, h.pg, h.nl, h.sl⟩

/-- A page that has ended. -/
def PgEnd (w : World) (p W H d s : Nat) : Prop := w.heap[p]? = some (.cells #[.int .i64 W, .int .i64 H, .int .i64 d, .int .i64 s, .int .i64 H, .pointer none] 61 (0, 0))
theorem PgEnd.kept {S : Nat → Prop} {w w' : World} {p W H d s : Nat} (h : PgEnd w p W H d s) (f : Fr S w w') (h1 : ¬ S p) : PgEnd w' p W H d s := by
  unfold PgEnd at *
  rw [f.block p (lt_of_block h) h1]; exact h

set_option maxRecDepth 100000 in
set_option maxHeartbeats 1000000 in
theorem ended_no {w : World} {p b g cap W H d s n : Nat} {P : Nat → Nat → Bool} (h : PgAt w p b g cap W H d s n P) :
    Calls Try.prog 32 #[.pointer (some ⟨p, 0, none⟩)] w fun e w' => e = .returned (.bool false) ∧ w' = w := by
  obtain ⟨c0, c1, c2, c3, c4, c5, cf⟩ := cell_of_six h.blk
  clear h
  go_enter Try.func32, Try.ntmps32
  go_wp2_with fail
  go_ret
  exact ⟨rfl, rfl⟩

set_option maxRecDepth 100000 in
set_option maxHeartbeats 1000000 in
theorem ended_yes {w : World} {p W H d s : Nat} (h : PgEnd w p W H d s) :
    Calls Try.prog 32 #[.pointer (some ⟨p, 0, none⟩)] w fun e w' => e = .returned (.bool true) ∧ w' = w := by
  obtain ⟨c0, c1, c2, c3, c4, c5, cf⟩ := cell_of_six h
  clear h
  go_enter Try.func32, Try.ntmps32
  go_wp2_with fail
  go_ret
  exact ⟨rfl, rfl⟩

set_option maxRecDepth 100000 in
set_option maxHeartbeats 1000000 in
theorem next_any {w : World} {p : Nat} {x y z u v t : Value} (h : w.heap[p]? = some (.cells #[x, y, z, u, v, t] 61 (0, 0))) :
    Calls Try.prog 20 #[.pointer (some ⟨p, 0, none⟩)] w fun e w' => e = .returned v ∧ w' = w := by
  obtain ⟨c0, c1, c2, c3, c4, c5, cf⟩ := cell_of_six h
  clear h
  go_enter Try.func20, Try.ntmps20
  go_wp2_with fail
  go_ret
  exact ⟨rfl, rfl⟩

end Go.Proofs.Ytejempbgpkeheaa
