/- The reference's Density, Unlike, Center. -/
import Derived.Test.YtodgdbbhllejkaaKMc
namespace Go.Proofs.Ytodgdbbhllejkaa
open Go.RowKit Ieee

theorem divide_nat (n d : Nat) (hn : n ≤ 9007199254740992) (w : World) :
    Calls Try.prog 45 #[.int .i64 (n : Int), .int .i64 (d : Int)] w fun e w' => ∃ x, e = .returned (.float .f64 x) ∧ ShP (n : Int) (d : Int) x ∧ Fr (fun _ => False) w w' :=
  divide_ok (n : Int) (d : Int) (exB_nat hn) w

end Go.Proofs.Ytodgdbbhllejkaa

/- What Density, Center and Unlike refuse. -/
namespace Go.Proofs.Ytodgdbbhllejkaa
open Go.RowKit Ieee

set_option maxRecDepth 100000 in
set_option maxHeartbeats 2000000 in
theorem unlike_bad (x y x' y' : Int) (v v' : Value) (l l' : List Nat) (w : World) (hv : Seen w v l) (hlt : ∀ j : Nat, l[j]?.getD 0 < 18446744073709551616) (hv' : Seen w v' l') (hlt' : ∀ j : Nat, l'[j]?.getD 0 < 18446744073709551616)
    (hok : validB x y l = false ∨ validB x' y' l' = false) (h1 : -9223372036854775808 ≤ x ∧ x ≤ 9223372036854775807) (h2 : -9223372036854775808 ≤ y ∧ y ≤ 9223372036854775807) (h1' : -9223372036854775808 ≤ x' ∧ x' ≤ 9223372036854775807) (h2' : -9223372036854775808 ≤ y' ∧ y' ≤ 9223372036854775807) :
    Calls Try.prog 25 #[.agg #[.int .i64 x, .int .i64 y, v], .agg #[.int .i64 x', .int .i64 y', v']] w fun e w' => e = .returned badM ∧ Fr (fun _ => False) w w' := by
  have HCK : Hid (∀ w', Fr (fun _ => False) w w' → Calls Try.prog 39 #[.agg #[.int .i64 x, .int .i64 y, v]] w' fun e w'' => e = .returned (.bool (validB x y l)) ∧ Fr (fun _ => False) w' w'') := fun w' f => check_any x y v l w' h1 h2 (hv.kept f) hlt
  have HCK' : Hid (∀ w', Fr (fun _ => False) w w' → Calls Try.prog 39 #[.agg #[.int .i64 x', .int .i64 y', v']] w' fun e w'' => e = .returned (.bool (validB x' y' l')) ∧ Fr (fun _ => False) w' w'') := fun w' f => check_any x' y' v' l' w' h1' h2' (hv'.kept f) hlt'
  have HOK : Hid (validB x y l = false ∨ validB x' y' l' = false) := hok
  clear hv hv' hlt hlt' hok
  have HA : Hid (Fr (fun _ => False) w ((w.alloc (.cells #[.int .i64 x, .int .i64 y, v] 48)).alloc (.cells #[.int .i64 x', .int .i64 y', v'] 48))) := ((Fr.refl _ _).alloc _).alloc _
  have HBX : Hid (∀ w', Fr (fun _ => False) ((w.alloc (.cells #[.int .i64 x, .int .i64 y, v] 48)).alloc (.cells #[.int .i64 x', .int .i64 y', v'] 48)) w' → (w'.cell? ⟨w.heap.size, 0, none⟩ = some (.int .i64 x) ∧ w'.cell? ⟨w.heap.size, 1, none⟩ = some (.int .i64 y) ∧ w'.cell? ⟨w.heap.size, 2, none⟩ = some v) ∧ (w'.cell? ⟨w.heap.size + 1, 0, none⟩ = some (.int .i64 x') ∧ w'.cell? ⟨w.heap.size + 1, 1, none⟩ = some (.int .i64 y') ∧ w'.cell? ⟨w.heap.size + 1, 2, none⟩ = some v')) := fun w' hf => by
    obtain ⟨a, b, c, _⟩ := cell_of_three (blkOld hf (blkUp (heap_alloc_new w (.cells #[.int .i64 x, .int .i64 y, v] 48)) _))
    obtain ⟨a', b', c', _⟩ := cell_of_three (blkOld hf (by have := heap_alloc_new (w.alloc (.cells #[.int .i64 x, .int .i64 y, v] 48)) (.cells #[.int .i64 x', .int .i64 y', v'] 48); rwa [World.size_alloc] at this))
    exact ⟨⟨a, b, c⟩, a', b', c'⟩
  obtain ⟨⟨c0, c1, c2⟩, e0, e1, e2⟩ := HBX.out _ (Fr.refl _ _)
  go_enter Try.func25, Try.ntmps25
  go_wp2_with fail
  generalize (w.alloc (.cells #[.int .i64 x, .int .i64 y, v] 48)).alloc (.cells #[.int .i64 x', .int .i64 y', v'] 48) = w0 at *
  refine (HCK.out _ HA.out).mono ?_
  rintro e w1 ⟨rfl, hf1⟩
  have HF1 : Hid (Fr (fun _ => False) w0 w1) := hf1
  clear hf1 c0 c1 c2 e0 e1 e2
  obtain ⟨⟨c0, c1, c2⟩, e0, e1, e2⟩ := HBX.out _ HF1.out
  have HFE : Hid (Fr (fun _ => False) w w1) := HA.out.trans HF1.out (fun _ _ h => h)
  cases hb : validB x y l
  · go_wp2_with fail
    all_goals (go_ret2; exact ⟨rfl, HFE.out⟩)
  · have hb' : validB x' y' l' = false := by
      rcases HOK.out with h | h
      · rw [hb] at h; cases h
      · exact h
    rw [hb'] at HCK'
    clear HOK
    go_wp2_with fail
    refine (HCK'.out _ HFE.out).mono ?_
    rintro e w2 ⟨rfl, hf2⟩
    have HF2 : Hid (Fr (fun _ => False) w w2) := HFE.out.trans hf2 (fun _ _ h => h)
    clear hf2 c0 c1 c2 e0 e1 e2
    go_wp2_with fail
    all_goals (go_ret2; exact ⟨rfl, HF2.out⟩)

end Go.Proofs.Ytodgdbbhllejkaa
