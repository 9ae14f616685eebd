/- A context: its row, its likelier bit, what it learns. -/
import Derived.Test.YtllhekkclhcdbaaDoorFrame
namespace Go.Proofs.YtllhekkclhcdbaaDoor
open Go.RowKit

set_option maxRecDepth 100000 in
set_option maxHeartbeats 1000000 in
theorem likelier_at (w : World) (g k x : Nat) (hc : w.cell? ⟨g, k, none⟩ = some (.int .u8 x)) (hx : x < 94) :
    Calls Tryd.prog 82 #[.pointer (some ⟨g, k, none⟩)] w fun e w' => e = .returned (.int .u8 (x % 2 : Nat)) ∧ w' = w := by
  go_enter Tryd.func82, Tryd.ntmps82
  go_wp2_with fail
  go_ret
  exact ⟨rfl, rfl⟩

set_option maxRecDepth 100000 in
set_option maxHeartbeats 1000000 in
theorem newCell_at (w : World) (s b : Nat) (hs : s < 47) (hb : b < 2) :
    Calls Tryd.prog 87 #[.int .u8 s, .int .u8 b] w fun e w' => e = .returned (.int .u8 (2 * s + b : Nat)) ∧ w' = w := by
  go_enter Tryd.func87, Tryd.ntmps87
  go_wp2_with fail
  go_ret
  exact ⟨rfl, rfl⟩

/-- What a state's row says. -/
structure IsRow (s q m l : Nat) (b : Bool) : Prop where
  hs : s < 47
  hq : q = rQ s
  hm : m = rM s
  hl : l = rL s
  hb : b = rS s

set_option maxRecDepth 100000 in
set_option maxHeartbeats 1000000 in
theorem row_at (w : World) (g k x : Nat) (hc : w.cell? ⟨g, k, none⟩ = some (.int .u8 x)) (hx : x < 94) (q m l : Nat) (b : Bool) (hr : IsRow (x / 2) q m l b) :
    Calls Tryd.prog 81 #[.pointer (some ⟨g, k, none⟩)] w fun e w' => e = .returned (.agg #[.int .u32 q, .int .u8 m, .int .u8 l, .bool b]) ∧ Fr (fun _ => False) w w' := by
  have hx2 : Hid (∀ w, Calls Tryd.prog 86 #[.int .i64 ((x / 2 : Nat) : Int)] w fun e w' => e = .returned (.agg #[.int .u32 q, .int .u8 m, .int .u8 l, .bool b]) ∧ ∃ o, w' = w.alloc o) := by
    intro w
    rw [hr.hq, hr.hm, hr.hl, hr.hb]
    exact row_of w (x / 2) hr.hs
  have hlt : g < w.heap.size := World.block_lt_of_cell? w ⟨g, k, none⟩ hc
  clear hr
  go_enter Tryd.func81, Tryd.ntmps81
  go_wp2_with (first | (go_at_call 86; refine (hx2.out _).mono ?_; rintro e w' ⟨rfl, o, rfl⟩))
  go_returns
  exact ⟨rfl, ((Fr.refl _ _).alloc _).alloc _⟩

theorem IsRow.of {x : Nat} (hx : x < 94) : IsRow (x / 2) (rQ (x / 2)) (rM (x / 2)) (rL (x / 2)) (rS (x / 2)) := ⟨by omega, rfl, rfl, rfl, rfl⟩
theorem IsRow.bd {s q m l : Nat} {b : Bool} (h : IsRow s q m l b) : 1 ≤ q ∧ q ≤ 22017 ∧ m < 47 ∧ l < 47 := by
  rw [h.hq, h.hm, h.hl]
  exact ⟨(rQ_bd s h.hs).1, (rQ_bd s h.hs).2, rM_bd s h.hs, rL_bd s h.hs⟩

set_option maxRecDepth 100000 in
set_option maxHeartbeats 1000000 in
theorem learn_at (w : World) (g k x : Nat) (hc : w.cell? ⟨g, k, none⟩ = some (.int .u8 x)) (hf : w.frozen? ⟨g, k, none⟩ = false) (hx : x < 94) (b : Bool) :
    Calls Tryd.prog 83 #[.pointer (some ⟨g, k, none⟩), .bool b] w fun e w' => e = .returned (.tuple #[]) ∧ ∃ w1, Fr (fun _ => False) w w1 ∧ Fr (fun _ => False) (w1.setCell ⟨g, k, none⟩ (.int .u8 (learnP b x : Nat))) w' := by
  have hlt : g < w.heap.size := World.block_lt_of_cell? w ⟨g, k, none⟩ hc
  obtain ⟨q, m, l, t, HR⟩ : ∃ q m l t, Hid (IsRow (x / 2) q m l t) := ⟨_, _, _, _, IsRow.of hx⟩
  have HX : Hid (x < 94) := hx
  obtain ⟨hq1, hq2, hm, hl⟩ := HR.out.bd
  have HL : Hid (learnP b x = if b then 2 * m + x % 2 else 2 * l + (if t then 1 - x % 2 else x % 2)) := by
    unfold Hid learnP; rw [HR.out.hm, HR.out.hl, HR.out.hb]
  obtain ⟨y, HY⟩ : ∃ y, Hid (y = x % 2) := ⟨_, rfl⟩
  have hy : y < 2 := by rw [HY.out]; omega
  have HN : Hid (∀ w, Calls Tryd.prog 87 #[.int .u8 m, .int .u8 y] w fun e w' => e = .returned (.int .u8 (2 * m + y : Nat)) ∧ w' = w) := fun w => newCell_at w m y hm hy
  have HN2 : Hid (∀ w, ∀ z : Nat, z < 2 → Calls Tryd.prog 87 #[.int .u8 l, .int .u8 z] w fun e w' => e = .returned (.int .u8 (2 * l + z : Nat)) ∧ w' = w) := fun w z hz => newCell_at w l z hl hz
  cases b
  · cases t
    · go_enter Tryd.func83, Tryd.ntmps83
      go_wp2_with (first | (go_at_call 81; refine (row_at _ g k x hc HX.out q m l _ HR.out).mono ?_; rintro e w1 ⟨rfl, hf1⟩; have hc1 := hf1.cell hc (fun h => h); have hfr1 := hf1.frozen hlt hf (fun h => h); have hlt1 : g < w1.heap.size := Nat.lt_of_lt_of_le hlt hf1.size; have HF1 : Hid (Fr (fun _ => False) w w1) := hf1; clear hf1) | (go_at_call 82; refine (likelier_at _ g k x hc1 HX.out).mono ?_; rw [← HY.out]; rintro e w2 ⟨rfl, rfl⟩) | (go_at_call 87; refine (HN2.out _ y hy).mono ?_; rintro e w3 ⟨rfl, rfl⟩))
      go_end0
      refine ⟨rfl, _, HF1.out, ?_⟩
      rw [HL.out, ← HY.out]; exact (Fr.refl _ _).alloc _
    · rcases (by omega : y = 0 ∨ y = 1) with rfl | rfl
      · go_enter Tryd.func83, Tryd.ntmps83
        go_wp2_with (first | (go_at_call 81; refine (row_at _ g k x hc HX.out q m l _ HR.out).mono ?_; rintro e w1 ⟨rfl, hf1⟩; have hc1 := hf1.cell hc (fun h => h); have hfr1 := hf1.frozen hlt hf (fun h => h); have hlt1 : g < w1.heap.size := Nat.lt_of_lt_of_le hlt hf1.size; have HF1 : Hid (Fr (fun _ => False) w w1) := hf1; clear hf1) | (go_at_call 82; refine (likelier_at _ g k x hc1 HX.out).mono ?_; rw [← HY.out]; rintro e w2 ⟨rfl, rfl⟩) | (go_at_call 87; refine (HN2.out _ 1 (by decide)).mono ?_; rintro e w3 ⟨rfl, rfl⟩))
        go_end0
        refine ⟨rfl, _, HF1.out, ?_⟩
        rw [HL.out, ← HY.out]; exact (Fr.refl _ _).alloc _
      · go_enter Tryd.func83, Tryd.ntmps83
        go_wp2_with (first | (go_at_call 81; refine (row_at _ g k x hc HX.out q m l _ HR.out).mono ?_; rintro e w1 ⟨rfl, hf1⟩; have hc1 := hf1.cell hc (fun h => h); have hfr1 := hf1.frozen hlt hf (fun h => h); have hlt1 : g < w1.heap.size := Nat.lt_of_lt_of_le hlt hf1.size; have HF1 : Hid (Fr (fun _ => False) w w1) := hf1; clear hf1) | (go_at_call 82; refine (likelier_at _ g k x hc1 HX.out).mono ?_; rw [← HY.out]; rintro e w2 ⟨rfl, rfl⟩) | (go_at_call 87; refine (HN2.out _ 0 (by decide)).mono ?_; rintro e w3 ⟨rfl, rfl⟩))
        go_end0
        refine ⟨rfl, _, HF1.out, ?_⟩
        rw [HL.out, ← HY.out]; exact (Fr.refl _ _).alloc _
  · go_enter Tryd.func83, Tryd.ntmps83
    go_wp2_with (first | (go_at_call 81; refine (row_at _ g k x hc HX.out q m l _ HR.out).mono ?_; rintro e w1 ⟨rfl, hf1⟩; have hc1 := hf1.cell hc (fun h => h); have hfr1 := hf1.frozen hlt hf (fun h => h); have hlt1 : g < w1.heap.size := Nat.lt_of_lt_of_le hlt hf1.size; have HF1 : Hid (Fr (fun _ => False) w w1) := hf1; clear hf1) | (go_at_call 82; refine (likelier_at _ g k x hc1 HX.out).mono ?_; rw [← HY.out]; rintro e w2 ⟨rfl, rfl⟩) | (go_at_call 87; refine (HN.out _).mono ?_; rintro e w3 ⟨rfl, rfl⟩))
    (try simp only [Exit.inBlock, Exit.then]); refine bodyPost_ret (results_none rfl _ _ _) rfl ?_
    refine ⟨rfl, _, HF1.out, ?_⟩
    rw [HL.out, ← HY.out]; exact (Fr.refl _ _).alloc _

end Go.Proofs.YtllhekkclhcdbaaDoor
