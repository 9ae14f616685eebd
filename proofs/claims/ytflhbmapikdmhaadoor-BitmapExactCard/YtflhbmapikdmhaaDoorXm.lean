/- Pixels that are set row by row, place by place, out of a rectangle: the mathematics of the reference's loops. -/
import Derived.Test.YtflhbmapikdmhaaDoorXs
namespace Go.Proofs.YtflhbmapikdmhaaDoor
set_option maxRecDepth 100000
open Go.RowKit

set_option linter.unusedSimpArgs false in
set_option maxHeartbeats 1000000 in
theorem rset_bit (W H : Nat) (v : Value) (x y : Nat) (bit : Int) (w : World) (hv : ∃ ao n cap, v = .slice ao n cap) (hx : x < W) (hy : y < H) (hb : bit ≠ 0 ∧ bit ≠ 1) :
    Calls Tryd.prog 7 #[.agg #[.int .i64 (W : Int), .int .i64 (H : Int), v], .int .i64 (x : Int), .int .i64 (y : Int), .int .i64 bit] w fun e w' => e = .returned (.int .i64 23) ∧ Fr (fun _ => False) w w' := by
  obtain ⟨ao, n, cap, rfl⟩ := hv
  have HF1 : Hid (Fr (fun _ => False) w (w.alloc (.cells #[.int .i64 (W : Int), .int .i64 (H : Int), .slice ao n cap] 39))) := (Fr.refl _ w).alloc _
  have d3 : decide ((W : Int) ≤ (x : Int)) = false := decide_eq_false (by omega)
  have d4 : decide ((H : Int) ≤ (y : Int)) = false := decide_eq_false (by omega)
  have d3' : decide (W ≤ x) = false := decide_eq_false (by omega)
  have d4' : decide (H ≤ y) = false := decide_eq_false (by omega)
  have b0 : (bit != 0) = true := by simp [hb.1]
  have b1 : (bit != 1) = true := by simp [hb.2]
  clear hx hy hb
  go_enter Tryd.func7, Tryd.ntmps7
  go_wp2_with fail
  go_ret
  exact ⟨rfl, HF1.out⟩

set_option linter.unusedSimpArgs false in
set_option maxHeartbeats 1000000 in
theorem rset_in (W H g cap : Nat) (P : Nat → Nat → Bool) (x y : Nat) (c : Bool) (w : World) (hr : RowAt w g cap W H P) (h1 : 1 ≤ W) (h2 : 1 ≤ H) (h3 : W * H ≤ 1048576) (hx : x < W) (hy : y < H) :
    Calls Tryd.prog 7 #[.agg #[.int .i64 (W : Int), .int .i64 (H : Int), .slice (some ⟨g, 0, none⟩) (H * stride W) cap], .int .i64 (x : Int), .int .i64 (y : Int), .int .i64 ((c.toNat : Nat) : Int)] w fun e w' => e = .returned (.int .i64 0) ∧ RowAt w' g cap W H (putPix P x y c) ∧ Fr (fun k => k = g) w w' := by
  have HG : Hid (g < w.heap.size) := hr.lt
  have HPT : Hid (∀ w', Fr (fun _ => False) w w' → Calls Tryd.prog 35 #[.agg #[.int .i64 (W : Int), .int .i64 (H : Int), .slice (some ⟨g, 0, none⟩) (H * stride W) cap], .int .i64 (x : Int), .int .i64 (y : Int), .int .i64 ((c.toNat : Nat) : Int)] w' fun e w'' => e = .returned (.tuple #[]) ∧ RowAt w'' g cap W H (putPix P x y c) ∧ Fr (fun k => k = g) w' w'') := fun w' f => zput_any W H g cap P x y c w' (hr.kept f (fun h => h)) h1 h2 h3 hx hy
  obtain ⟨NW, hNW⟩ : ∃ NW, NW = H * stride W := ⟨_, rfl⟩
  rw [← hNW] at HPT ⊢
  clear hNW hr
  have HF1 : Hid (Fr (fun _ => False) w (w.alloc (.cells #[.int .i64 (W : Int), .int .i64 (H : Int), .slice (some ⟨g, 0, none⟩) NW cap] 39))) := (Fr.refl _ w).alloc _
  have d3 : decide ((W : Int) ≤ (x : Int)) = false := decide_eq_false (by omega)
  have d4 : decide ((H : Int) ≤ (y : Int)) = false := decide_eq_false (by omega)
  have d3' : decide (W ≤ x) = false := decide_eq_false (by omega)
  have d4' : decide (H ≤ y) = false := decide_eq_false (by omega)
  clear hx hy h3
  cases c
  · go_enter Tryd.func7, Tryd.ntmps7
    go_wp2_with fail
    refine Calls.mono (HPT.out _ HF1.out) ?_
    rintro e w2 ⟨rfl, hr2, hf2⟩
    have HR2 : Hid (RowAt w2 g cap W H (putPix P x y false)) := hr2
    have HF2 : Hid (Fr (fun k => k = g) w w2) := ((Fr.refl (fun k => k = g) w).trans HF1.out (fun _ _ h => h.elim)).trans hf2 (fun _ _ h => h)
    clear hr2 hf2
    go_wp2_with fail
    go_ret
    exact ⟨rfl, HR2.out, HF2.out⟩
  · go_enter Tryd.func7, Tryd.ntmps7
    go_wp2_with fail
    refine Calls.mono (HPT.out _ HF1.out) ?_
    rintro e w2 ⟨rfl, hr2, hf2⟩
    have HR2 : Hid (RowAt w2 g cap W H (putPix P x y true)) := hr2
    have HF2 : Hid (Fr (fun k => k = g) w w2) := ((Fr.refl (fun k => k = g) w).trans HF1.out (fun _ _ h => h.elim)).trans hf2 (fun _ _ h => h)
    clear hr2 hf2
    go_wp2_with fail
    go_ret
    exact ⟨rfl, HR2.out, HF2.out⟩
end Go.Proofs.YtflhbmapikdmhaaDoor

namespace Go.Proofs.YtflhbmapikdmhaaDoor
open Go.RowKit

/-- The pixels of Q, where the place less (X, Y) lies from (a, d) on, in columns below c, ahead of row j, or in row j ahead of i; P elsewhere. -/
def setG (Q : Nat → Nat → Bool) (X Y a c d j i : Int) (P : Nat → Nat → Bool) : Nat → Nat → Bool := fun A E => if d ≤ (E : Int) - Y ∧ a ≤ (A : Int) - X ∧ (A : Int) - X < c ∧ ((E : Int) - Y < j ∨ ((E : Int) - Y = j ∧ (A : Int) - X < i)) then Q A E else P A E
theorem setG_first (Q : Nat → Nat → Bool) (X Y a c d : Int) (P : Nat → Nat → Bool) : setG Q X Y a c d d a P = P := by
  funext A E; unfold setG; rw [if_neg (by omega)]
theorem setG_at {Q : Nat → Nat → Bool} {X Y a c d j i : Int} {P : Nat → Nat → Bool} {A E : Nat} (hx : X + i = (A : Int)) (hy : Y + j = (E : Int)) : setG Q X Y a c d j i P A E = P A E := by
  unfold setG; rw [if_neg (by omega)]
theorem setG_next {Q : Nat → Nat → Bool} {X Y a c d j i : Int} {P : Nat → Nat → Bool} {A0 E0 : Nat} (h1 : a ≤ i) (h2 : i < c) (h3 : d ≤ j) (hx : X + i = (A0 : Int)) (hy : Y + j = (E0 : Int)) : setG Q X Y a c d j (i + 1) P = putPix (setG Q X Y a c d j i P) A0 E0 (Q A0 E0) := by
  funext A E
  unfold putPix
  by_cases h : A = A0 ∧ E = E0
  · obtain ⟨rfl, rfl⟩ := h
    rw [if_pos ⟨rfl, rfl⟩]
    unfold setG
    rw [if_pos (by omega)]
  · rw [if_neg h]
    unfold setG
    by_cases h2 : d ≤ (E : Int) - Y ∧ a ≤ (A : Int) - X ∧ (A : Int) - X < c ∧ ((E : Int) - Y < j ∨ ((E : Int) - Y = j ∧ (A : Int) - X < i))
    · rw [if_pos h2, if_pos (by omega)]
    · rw [if_neg h2, if_neg (by omega)]
theorem setG_row {Q : Nat → Nat → Bool} {X Y a c d j i : Int} {P : Nat → Nat → Bool} (h : c ≤ i) : setG Q X Y a c d j i P = setG Q X Y a c d (j + 1) a P := by
  funext A E
  unfold setG
  by_cases h2 : d ≤ (E : Int) - Y ∧ a ≤ (A : Int) - X ∧ (A : Int) - X < c ∧ ((E : Int) - Y < j ∨ ((E : Int) - Y = j ∧ (A : Int) - X < i))
  · rw [if_pos h2, if_pos (by omega)]
  · rw [if_neg h2, if_neg (by omega)]
/-- All of a raster. -/
theorem setG_all (Q : Nat → Nat → Bool) (W H : Nat) (P : Nat → Nat → Bool) : ∀ A E, A < W → E < H → setG Q 0 0 0 (W : Int) 0 (H : Int) 0 P A E = Q A E := by
  intro A E hA hE
  unfold setG
  rw [if_pos (by omega)]
theorem RowAt.pixO {w : World} {g cap W H : Nat} {P Q : Nat → Nat → Bool} (h : RowAt w g cap W H P) (e : ∀ x y, x < W → y < H → P x y = Q x y) : RowAt w g cap W H Q := by
  unfold RowAt at h ⊢
  rwa [render_congr e] at h
end Go.Proofs.YtflhbmapikdmhaaDoor
