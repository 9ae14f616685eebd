/- 'Order's comparison: 'cmp.Or', the closure. -/
import Derived.Test.YtodgdbbhllejkaaKSf
import Derived.Test.YtodgdbbhllejkaaKKc
namespace Go.Proofs.Ytodgdbbhllejkaa
open Go.Shelf Go.RowKit Go.Lib Go.Sort

theorem compare_any (x y : Int) (w : World) : Calls Try.prog 36 #[.int .i64 x, .int .i64 y] w fun e w' => e = .returned (.int .i64 (Lib.compareInt x y)) ∧ w' = w := by
  have h := AnyG.cmp_Compare_int Try.cmpL x y w
  change Calls Try.prog 36 _ _ _ at h
  exact h

def or3 (a b c : Int) : Int := if a ≠ 0 then a else if b ≠ 0 then b else c

set_option maxRecDepth 100000 in
set_option maxHeartbeats 2000000 in
theorem or_any (a b c : Int) (g : Nat) (w : World) (h : w.heap[g]? = some (.cells #[.int .i64 a, .int .i64 b, .int .i64 c] 3 (0, 0))) :
    Calls Try.prog 35 #[.slice (some ⟨g, 0, none⟩) 3 3] w fun e w' => e = .returned (.int .i64 (or3 a b c)) ∧ w' = w := by
  obtain ⟨c0, c1, c2, -⟩ := cell_of_three h
  have HO : Hid (∀ r, (a ≠ 0 → r = a) → (a = 0 → b ≠ 0 → r = b) → (a = 0 → b = 0 → r = c) → or3 a b c = r) := fun r h1 h2 h3 => by
    unfold or3
    by_cases e1 : a = 0
    · by_cases e2 : b = 0
      · rw [if_neg (by simp [e1]), if_neg (by simp [e2]), h3 e1 e2]
      · rw [if_neg (by simp [e1]), if_pos e2, h2 e1 e2]
    · rw [if_pos e1, h1 e1]
  clear h
  by_cases e1 : a = 0
  · by_cases e2 : b = 0
    · by_cases e3 : c = 0
      · have hr : Hid (or3 a b c = 0) := HO.out 0 (fun h => absurd e1 h) (fun _ h => absurd e2 h) (fun _ _ => e3.symm)
        subst e1 e2 e3
        rw [hr.out]
        clear HO hr
        go_enter Try.func35, Try.ntmps35
        go_wp2_with fail
        refine wp_loop_rounds 4 ?_
        rw [rounds_succ]
        go_wp2_with fail
        rw [rounds_succ]
        go_wp2_with fail
        rw [rounds_succ]
        go_wp2_with fail
        rw [rounds_succ]
        go_wp2_with fail
        go_ret
        exact ⟨rfl, rfl⟩
      · have hr : Hid (or3 a b c = c) := HO.out c (fun h => absurd e1 h) (fun _ h => absurd e2 h) (fun _ _ => rfl)
        subst e1 e2
        rw [hr.out]
        have hn : (c != 0) = true := by simp [e3]
        clear HO hr
        go_enter Try.func35, Try.ntmps35
        go_wp2_with fail
        refine wp_loop_rounds 3 ?_
        rw [rounds_succ]
        go_wp2_with fail
        rw [rounds_succ]
        go_wp2_with fail
        rw [rounds_succ]
        go_wp2_with fail
        go_ret
        exact ⟨rfl, rfl⟩
    · have hr : Hid (or3 a b c = b) := HO.out b (fun h => absurd e1 h) (fun _ _ => rfl) (fun _ h => absurd h e2)
      subst e1
      rw [hr.out]
      have hn : (b != 0) = true := by simp [e2]
      clear HO hr
      go_enter Try.func35, Try.ntmps35
      go_wp2_with fail
      refine wp_loop_rounds 2 ?_
      rw [rounds_succ]
      go_wp2_with fail
      rw [rounds_succ]
      go_wp2_with fail
      go_ret
      exact ⟨rfl, rfl⟩
  · have hr : Hid (or3 a b c = a) := HO.out a (fun _ => rfl) (fun h => absurd h e1) (fun h => absurd h e1)
    rw [hr.out]
    have hn : (a != 0) = true := by simp [e1]
    clear HO hr
    go_enter Try.func35, Try.ntmps35
    go_wp2_with fail
    refine wp_loop_rounds 1 ?_
    rw [rounds_succ]
    go_wp2_with fail
    go_ret
    exact ⟨rfl, rfl⟩

/-- What the closure tells of two numbers. -/
def cfO (A : Nat → Bp) (i k : Nat) : Int := or3 (Lib.compareInt (A i).y (A k).y) (Lib.compareInt (A i).x (A k).x) (Lib.compareInt (i : Int) (k : Int))

set_option maxRecDepth 100000 in
set_option maxHeartbeats 4000000 in
theorem closure_any (A : Nat → Bp) (i k n cap b off pb : Nat) (w : World) (hi : i < n) (hk : k < n) (_hn : n ≤ 9223372036854775807) (hb : w.cell? ⟨pb, 0, none⟩ = some (.slice (some ⟨b, off, none⟩) n cap))
    (hix : w.cell? ⟨b, off + i * 3, none⟩ = some (.int .i64 (A i).x)) (hiy : w.cell? ⟨b, off + i * 3 + 1, none⟩ = some (.int .i64 (A i).y)) (hkx : w.cell? ⟨b, off + k * 3, none⟩ = some (.int .i64 (A k).x)) (hky : w.cell? ⟨b, off + k * 3 + 1, none⟩ = some (.int .i64 (A k).y)) :
    Calls Try.prog 34 #[.int .i64 (i : Int), .int .i64 (k : Int), .pointer (some ⟨pb, 0, none⟩)] w fun e w' => e = .returned (.int .i64 (cfO A i k)) ∧ ∃ q os', w' = grow (w.drewN q) os' := by
  have HC1 : Hid (∀ w', Calls Try.prog 36 #[.int .i64 (A i).y, .int .i64 (A k).y] w' fun e w'' => e = .returned (.int .i64 (Lib.compareInt (A i).y (A k).y)) ∧ w'' = w') := fun w' => compare_any _ _ w'
  have HC2 : Hid (∀ w', Calls Try.prog 36 #[.int .i64 (A i).x, .int .i64 (A k).x] w' fun e w'' => e = .returned (.int .i64 (Lib.compareInt (A i).x (A k).x)) ∧ w'' = w') := fun w' => compare_any _ _ w'
  have HC3 : Hid (∀ w', Calls Try.prog 36 #[.int .i64 (i : Int), .int .i64 (k : Int)] w' fun e w'' => e = .returned (.int .i64 (Lib.compareInt (i : Int) (k : Int))) ∧ w'' = w') := fun w' => compare_any _ _ w'
  have HEQ : Hid (cfO A i k = or3 (Lib.compareInt (A i).y (A k).y) (Lib.compareInt (A i).x (A k).x) (Lib.compareInt (i : Int) (k : Int))) := rfl
  rw [HEQ.out]
  clear HEQ
  generalize Lib.compareInt (A i).y (A k).y = r1 at *
  generalize Lib.compareInt (A i).x (A k).x = r2 at *
  generalize Lib.compareInt (i : Int) (k : Int) = r3 at *
  generalize (A i).x = ix at *
  generalize (A i).y = iy at *
  generalize (A k).x = kx at *
  generalize (A k).y = ky at *
  have HOR : Hid (Calls Try.prog 35 #[.slice (some ⟨w.heap.size, 0, none⟩) 3 3] (w.drew.alloc (.cells #[.int .i64 r1, .int .i64 r2, .int .i64 r3] 3)) fun e w' => e = .returned (.int .i64 (or3 r1 r2 r3)) ∧ w' = (w.drew.alloc (.cells #[.int .i64 r1, .int .i64 r2, .int .i64 r3] 3))) := or_any r1 r2 r3 w.heap.size _ (heap_alloc_new w.drew _)
  have HFI : Hid (∃ q os', w.drew.alloc (.cells #[.int .i64 r1, .int .i64 r2, .int .i64 r3] 3) = grow (w.drewN q) os') := ⟨1, #[.cells #[.int .i64 r1, .int .i64 r2, .int .i64 r3] 3], by
    show ({ w.drew with heap := w.drew.heap.push (.cells #[.int .i64 r1, .int .i64 r2, .int .i64 r3] 3) } : World) = _
    rw [Array.push_eq_append]
    rfl⟩
  have di : decide (i < n) = true := decide_eq_true hi
  have dk : decide (k < n) = true := decide_eq_true hk
  have HS : Hid (∀ w' : World, Fr (fun _ => False) w w' → w'.cell? ⟨pb, 0, none⟩ = some (.slice (some ⟨b, off, none⟩) n cap) ∧ (w'.cell? ⟨b, off + i * 3, none⟩ = some (.int .i64 ix) ∧ w'.cell? ⟨b, off + i * 3 + 1, none⟩ = some (.int .i64 iy)) ∧ (w'.cell? ⟨b, off + k * 3, none⟩ = some (.int .i64 kx) ∧ w'.cell? ⟨b, off + k * 3 + 1, none⟩ = some (.int .i64 ky))) := fun w' h => by
    exact ⟨by rw [h.cellEq (seen_lt hb) (fun h => h)]; exact hb, ⟨by rw [h.cellEq (seen_lt hix) (fun h => h)]; exact hix, by rw [h.cellEq (seen_lt hix) (fun h => h)]; exact hiy⟩, by rw [h.cellEq (seen_lt hix) (fun h => h)]; exact hkx, by rw [h.cellEq (seen_lt hix) (fun h => h)]; exact hky⟩
  go_enter Try.func34, Try.ntmps34
  go_wp2_with fail
  go_region_held3 (fun w' => w'.cell? ⟨pb, 0, none⟩ = some (.slice (some ⟨b, off, none⟩) n cap) ∧ (w'.cell? ⟨b, off + i * 3, none⟩ = some (.int .i64 ix) ∧ w'.cell? ⟨b, off + i * 3 + 1, none⟩ = some (.int .i64 iy)) ∧ (w'.cell? ⟨b, off + k * 3, none⟩ = some (.int .i64 kx) ∧ w'.cell? ⟨b, off + k * 3 + 1, none⟩ = some (.int .i64 ky))) (first | exact HS.out _ (Fr.refl _ _).drew | exact HS.out _ ((Fr.refl _ _).drew.alloc _)) (first | (go_at_call 36; with_reducible refine (HC1.out _).mono ?_; rintro e w3 ⟨rfl, rfl⟩) | (go_at_call 36; with_reducible refine (HC2.out _).mono ?_; rintro e w3 ⟨rfl, rfl⟩) | (go_at_call 36; with_reducible refine (HC3.out _).mono ?_; rintro e w3 ⟨rfl, rfl⟩) | (go_at_call 35; refine HOR.out.mono ?_; rintro e w4 ⟨rfl, rfl⟩))
  all_goals
    go_wp2_with fail
    go_ret
    exact ⟨rfl, HFI.out⟩
end Go.Proofs.Ytodgdbbhllejkaa
