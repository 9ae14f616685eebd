/- Package generic: ownBits, newProcedure, count, fits. -/
import Derived.Test.YtkggdnkmaldmlabKLi
import Derived.Test.YtkggdnkmaldmlabKBd
import Derived.BigQuiet
namespace Go.Proofs.Ytkggdnkmaldmlab
open Go.RowKit

theorem own_black : ∀ t, t < 4 → ctx (pixI 64 1 (fun _ _ => true)) t 64 0 = 2 ^ cntS t 2 - 1 := by decide +kernel
theorem render_black : render 64 1 (fun _ _ => true) = [18446744073709551615] := by decide +kernel

set_option maxRecDepth 100000 in
set_option maxHeartbeats 1000000 in
theorem ownBits_any (t : Nat) (ht : t < 4) (w : World) :
    Calls Try.prog 38 #[.int .i64 t] w fun e w' => e = .returned (.int .i64 ((2 ^ cntS t 2 - 1 : Nat) : Int)) ∧ Fr (fun _ => False) w w' := by
  have HA : Hid (∀ (w' : World) (b : Nat), w'.heap[b]? = some (.cells #[.int .u64 18446744073709551615] 67 (0, 0)) → Calls Try.prog 51 #[.agg #[.int .i64 64, .int .i64 1, .slice (some ⟨b, 0, none⟩) 1 1], .int .i64 t, .int .i64 64, .int .i64 0] w' fun e w'' => e = .returned (.tuple #[.int .i64 ((2 ^ cntS t 2 - 1 : Nat) : Int), .int .i64 0]) ∧ Fr (fun _ => False) w' w'') := fun w' b hb => by
    have hbm : Bm w' (.slice (some ⟨b, 0, none⟩) 1 1) 64 1 (fun _ _ => true) := by
      refine ⟨⟨some ⟨b, 0, none⟩, 1, by rw [render_black]; rfl, by rw [render_black]; decide, fun _ => ⟨b, 0, rfl, fun j hj => ?_⟩⟩, ?_, by decide, by decide, by decide⟩
      · rw [render_black] at hj ⊢
        simp at hj
        subst hj
        simp [World.cell?, hb]
      · intro ao n c e
        simp only [Value.slice.injEq] at e
        obtain ⟨_, rfl, rfl⟩ := e
        exact ⟨by decide, by unfold maxLen; decide⟩
    have := at_ok 64 1 _ (fun _ _ => true) t 64 0 w' hbm ht (by decide) (by decide)
    rw [own_black t ht] at this
    exact this
  go_enter Try.func38, Try.ntmps38
  go_wp2_with fail
  refine (HA.out _ w.heap.size (by rw [Below.heap_alloc _ _ _ (by simp)]; exact heap_alloc_new w _)).mono ?_
  rintro e w1 ⟨rfl, hf1⟩
  have HF : Hid (Fr (fun _ => False) w w1) := (((Fr.refl _ _).alloc _).alloc _).trans hf1 (fun _ _ h => h)
  clear hf1
  go_wp2_with fail
  go_ret
  exact ⟨rfl, HF.out⟩

theorem set5_cells {w : World} {o : Nat} {x y z u v : Value} {t : TypeId} (h : w.heap[o]? = some (.cells #[x, y, z, u, v] t (0, 0))) (a b c d e : Value) : (((((w.setCell ⟨o, 0, none⟩ a).setCell ⟨o, 1, none⟩ b).setCell ⟨o, 2, none⟩ c).setCell ⟨o, 3, none⟩ d).setCell ⟨o, 4, none⟩ e).heap[o]? = some (.cells #[a, b, c, d, e] t (0, 0)) := by
  simp [World.setCell, Array.getElem?_modify, h]

theorem Fr.set5 (w : World) (o : Nat) (a b c d e : Value) : Fr (fun k => k = o) w (((((w.setCell ⟨o, 0, none⟩ a).setCell ⟨o, 1, none⟩ b).setCell ⟨o, 2, none⟩ c).setCell ⟨o, 3, none⟩ d).setCell ⟨o, 4, none⟩ e) :=
  (((((Fr.refl (fun k => k = o) w).setCell (p := ⟨o, 0, none⟩) (fun _ => rfl) _).setCell (p := ⟨o, 1, none⟩) (fun _ => rfl) _).setCell (p := ⟨o, 2, none⟩) (fun _ => rfl) _).setCell (p := ⟨o, 3, none⟩) (fun _ => rfl) _).setCell (p := ⟨o, 4, none⟩) (fun _ => rfl) _
/-- A procedure, its base any number. -/
def procI (base : Int) (t : Nat) (skip : Bool) : Value := .agg #[.int .i64 base, .int .i64 t, .int .i64 (sizeT t : Nat), .int .i64 ((2 ^ cntS t 2 - 1 : Nat) : Int), .bool skip]
theorem procI_nat (base t : Nat) (skip : Bool) : procI (base : Int) t skip = procV base t skip := rfl

set_option maxRecDepth 100000 in
set_option maxHeartbeats 1000000 in
theorem newProc_ok (base : Int) (t : Nat) (skip : Bool) (ht : t < 4) (w : World) :
    Calls Try.prog 22 #[.int .i64 base, .int .i64 t, .bool skip] w fun e w' => e = .returned (.tuple #[procI base t skip, .int .i64 0]) ∧ Fr (fun _ => False) w w' := by
  have HS : Hid (∀ w', Calls Try.prog 37 #[.int .i64 t] w' fun e w'' => e = .returned (.tuple #[.int .i64 (sizeT t : Nat), .int .i64 0]) ∧ Fr (fun _ => False) w' w'') := fun w' => size_any t ht w'
  have HO : Hid (∀ w', Calls Try.prog 38 #[.int .i64 t] w' fun e w'' => e = .returned (.int .i64 ((2 ^ cntS t 2 - 1 : Nat) : Int)) ∧ Fr (fun _ => False) w' w'') := fun w' => ownBits_any t ht w'
  unfold procI
  clear ht
  generalize sizeT t = Z at *
  generalize 2 ^ cntS t 2 - 1 = O at *
  go_enter Try.func22, Try.ntmps22
  go_wp2_with fail
  refine (HS.out _).mono ?_
  rintro e w1 ⟨rfl, hf1⟩
  have HF1 : Hid (Fr (fun _ => False) (w.alloc (.cells #[.int .i64 0, .int .i64 0, .int .i64 0, .int .i64 0, .bool false] 62)) w1) := hf1
  clear hf1
  go_wp2_with fail
  refine (HO.out _).mono ?_
  rintro e w2 ⟨rfl, hf2⟩
  have hf12 := HF1.out.trans hf2 (fun _ _ h => h)
  have hb2 : w2.heap[w.heap.size]? = some (.cells #[.int .i64 0, .int .i64 0, .int .i64 0, .int .i64 0, .bool false] 62 (0, 0)) := (hf12.block _ (by simp) (fun h => h)).trans (heap_alloc_new w _)
  have HF2 : Hid (Fr (fun _ => False) w w2) := ((Fr.refl _ _).alloc _).trans hf12 (fun _ _ h => h)
  obtain ⟨z0, z1, z2, z3, z4, zf⟩ := cell_of_five hb2
  clear hf2 hf12
  have h3 := set5_cells hb2 (.int .i64 base) (.int .i64 t) (.int .i64 Z) (.int .i64 O) (.bool skip)
  have HF3 : Hid (Fr (fun k => k = w.heap.size) w2 (((((w2.setCell ⟨w.heap.size, 0, none⟩ (.int .i64 base)).setCell ⟨w.heap.size, 1, none⟩ (.int .i64 t)).setCell ⟨w.heap.size, 2, none⟩ (.int .i64 Z)).setCell ⟨w.heap.size, 3, none⟩ (.int .i64 O)).setCell ⟨w.heap.size, 4, none⟩ (.bool skip))) := Fr.set5 _ _ _ _ _ _ _
  obtain ⟨y0, y1, y2, y3, y4, yf⟩ := cell_of_five h3
  have HY : Hid (((((w2.setCell ⟨w.heap.size, 0, none⟩ (.int .i64 base)).setCell ⟨w.heap.size, 1, none⟩ (.int .i64 t)).setCell ⟨w.heap.size, 2, none⟩ (.int .i64 Z)).setCell ⟨w.heap.size, 3, none⟩ (.int .i64 O)).setCell ⟨w.heap.size, 4, none⟩ (.bool skip) = ((((w2.setCell ⟨w.heap.size, 0, none⟩ (.int .i64 base)).setCell ⟨w.heap.size, 1, none⟩ (.int .i64 t)).setCell ⟨w.heap.size, 2, none⟩ (.int .i64 Z)).setCell ⟨w.heap.size, 3, none⟩ (.int .i64 O)).setCell ⟨w.heap.size, 4, none⟩ (.bool skip)) := rfl
  obtain ⟨w3, hw3⟩ : ∃ w3, w3 = ((((w2.setCell ⟨w.heap.size, 0, none⟩ (.int .i64 base)).setCell ⟨w.heap.size, 1, none⟩ (.int .i64 t)).setCell ⟨w.heap.size, 2, none⟩ (.int .i64 Z)).setCell ⟨w.heap.size, 3, none⟩ (.int .i64 O)).setCell ⟨w.heap.size, 4, none⟩ (.bool skip) := ⟨_, rfl⟩
  rw [← hw3] at y0 y1 y2 y3 y4 HF3
  have HW3 := (show Hid (w3 = ((((w2.setCell ⟨w.heap.size, 0, none⟩ (.int .i64 base)).setCell ⟨w.heap.size, 1, none⟩ (.int .i64 t)).setCell ⟨w.heap.size, 2, none⟩ (.int .i64 Z)).setCell ⟨w.heap.size, 3, none⟩ (.int .i64 O)).setCell ⟨w.heap.size, 4, none⟩ (.bool skip)) from hw3)
  clear h3 hb2 hw3 yf HY
  go_wp2_with fail
  rw [← HW3.out]
  refine bodyPost_ret (v := .tuple #[.agg #[.int .i64 base, .int .i64 t, .int .i64 Z, .int .i64 O, .bool skip], .int .i64 0]) (by simp [results, Try.results22, go_sem, y0, y1, y2, y3, y4]) rfl ?_
  exact ⟨rfl, HF2.out.trans HF3.out (fun i hi e => by omega)⟩

set_option maxRecDepth 100000 in
set_option maxHeartbeats 1000000 in
theorem newProc_bad (base t : Int) (skip : Bool) (ht : t < 0 ∨ 4 ≤ t) (w : World) :
    Calls Try.prog 22 #[.int .i64 base, .int .i64 t, .bool skip] w fun e w' => e = .returned (.tuple #[.agg #[.int .i64 0, .int .i64 0, .int .i64 0, .int .i64 0, .bool false], .int .i64 60]) ∧ Fr (fun _ => False) w w' := by
  have HT : Hid (t < 0 ∨ 4 ≤ t) := ht
  clear ht
  go_enter Try.func22, Try.ntmps22
  go_wp2_with fail
  refine (size_bad t _ HT.out).mono ?_
  rintro e w1 ⟨rfl, hf1⟩
  have hb2 : w1.heap[w.heap.size]? = some (.cells #[.int .i64 0, .int .i64 0, .int .i64 0, .int .i64 0, .bool false] 62 (0, 0)) := (hf1.block _ (by simp) (fun h => h)).trans (heap_alloc_new w _)
  have HF2 : Hid (Fr (fun _ => False) w w1) := ((Fr.refl _ _).alloc _).trans hf1 (fun _ _ h => h)
  obtain ⟨z0, z1, z2, z3, z4, zf⟩ := cell_of_five hb2
  have h3 := set5_cells hb2 (.int .i64 0) (.int .i64 0) (.int .i64 0) (.int .i64 0) (.bool false)
  have HF3 : Hid (Fr (fun k => k = w.heap.size) w1 (((((w1.setCell ⟨w.heap.size, 0, none⟩ (.int .i64 0)).setCell ⟨w.heap.size, 1, none⟩ (.int .i64 0)).setCell ⟨w.heap.size, 2, none⟩ (.int .i64 0)).setCell ⟨w.heap.size, 3, none⟩ (.int .i64 0)).setCell ⟨w.heap.size, 4, none⟩ (.bool false))) := Fr.set5 _ _ _ _ _ _ _
  obtain ⟨y0, y1, y2, y3, y4, yf⟩ := cell_of_five h3
  clear h3 hb2 yf hf1
  go_wp2_with fail
  refine bodyPost_ret (v := .tuple #[.agg #[.int .i64 0, .int .i64 0, .int .i64 0, .int .i64 0, .bool false], .int .i64 60]) (by simp [results, Try.results22, go_sem, y0, y1, y2, y3, y4]) rfl ?_
  exact ⟨rfl, HF2.out.trans HF3.out (fun i hi e => by omega)⟩

set_option maxRecDepth 100000 in
set_option maxHeartbeats 1000000 in
theorem count7_any (base : Int) (t : Nat) (skip : Bool) (ht : t < 4) (w : World) :
    Calls Try.prog 36 #[procI base t skip] w fun e w' => e = .returned (.int .i64 ((sizeT t + 1 : Nat) : Int)) ∧ Fr (fun _ => False) w w' := by
  have hZ := sizeT_le t ht
  unfold procI
  generalize sizeT t = Z at *
  go_enter Try.func36, Try.ntmps36
  go_wp2_with fail
  go_ret
  exact ⟨by rw [Int.natCast_add]; rfl, (Fr.refl _ _).alloc _⟩

set_option maxRecDepth 100000 in
set_option maxHeartbeats 1000000 in
theorem fits_pos (base t : Nat) (skip : Bool) (n : Nat) (ht : t < 4) (hb : base ≤ 9223372036854775807) (hn : n ≤ 131072) (w : World) :
    Calls Try.prog 24 #[procV base t skip, .int .i64 n] w fun e w' => e = .returned (.bool (decide (base + sizeT t + 1 ≤ n))) ∧ Fr (fun _ => False) w w' := by
  have HC : Hid (∀ w', Calls Try.prog 36 #[.agg #[.int .i64 base, .int .i64 t, .int .i64 (sizeT t : Nat), .int .i64 ((2 ^ cntS t 2 - 1 : Nat) : Int), .bool skip]] w' fun e w'' => e = .returned (.int .i64 ((sizeT t + 1 : Nat) : Int)) ∧ Fr (fun _ => False) w' w'') := fun w' => count7_any base t skip ht w'
  have hZ := sizeT_le t ht
  unfold procV
  generalize sizeT t = Z at *
  have HB1 : Hid (∀ w', Fr (fun _ => False) (w.alloc (.cells #[.int .i64 base, .int .i64 t, .int .i64 Z, .int .i64 ((2 ^ cntS t 2 - 1 : Nat) : Int), .bool skip] 62)) w' → w'.cell? ⟨w.heap.size, 0, none⟩ = some (.int .i64 base) ∧ w'.cell? ⟨w.heap.size, 1, none⟩ = some (.int .i64 t) ∧ w'.cell? ⟨w.heap.size, 2, none⟩ = some (.int .i64 Z) ∧ w'.cell? ⟨w.heap.size, 3, none⟩ = some (.int .i64 ((2 ^ cntS t 2 - 1 : Nat) : Int)) ∧ w'.cell? ⟨w.heap.size, 4, none⟩ = some (.bool skip)) := fun w' f => by
    obtain ⟨p0, p1, p2, p3, p4, _⟩ := cell_of_five ((f.block w.heap.size (by simp) (fun h => h)).trans (heap_alloc_new w _))
    exact ⟨p0, p1, p2, p3, p4⟩
  have hd : decide ((0 : Int) ≤ base) = true := decide_eq_true (by omega)
  have hw1 : IntKind.i64.wrap ((n : Int) - ((Z + 1 : Nat) : Int)) = (n : Int) - ((Z + 1 : Nat) : Int) := by rw [IntKind.wrap_i64]; omega
  have HD : Hid (decide ((base : Int) ≤ (n : Int) - ((Z + 1 : Nat) : Int)) = decide (base + Z + 1 ≤ n)) := by show _ = _; rw [decide_eq_decide]; omega
  generalize ((Z + 1 : Nat) : Int) = C at *
  rw [← HD.out]
  go_enter Try.func24, Try.ntmps24
  go_wp2_with fail
  go_region_held3 (fun w' => w'.cell? ⟨w.heap.size, 0, none⟩ = some (.int .i64 base) ∧ w'.cell? ⟨w.heap.size, 1, none⟩ = some (.int .i64 t) ∧ w'.cell? ⟨w.heap.size, 2, none⟩ = some (.int .i64 Z) ∧ w'.cell? ⟨w.heap.size, 3, none⟩ = some (.int .i64 ((2 ^ cntS t 2 - 1 : Nat) : Int)) ∧ w'.cell? ⟨w.heap.size, 4, none⟩ = some (.bool skip)) (exact HB1.out _ (by repeat (first | with_reducible exact Fr.refl _ _ | with_reducible refine Fr.drew ?_ | with_reducible refine Fr.trans ?_ hf5 (fun _ _ hh => hh)))) (first | (go_at_call 36; refine (HC.out _).mono ?_; rintro e w5 ⟨rfl, hf5⟩))
  have HF : Hid (Fr (fun _ => False) w w5) := ((Fr.refl _ _).alloc _).drew.trans hf5 (fun _ _ h => h)
  clear hf5
  go_wp2_with fail
  go_ret
  exact ⟨rfl, HF.out⟩

end Go.Proofs.Ytkggdnkmaldmlab
