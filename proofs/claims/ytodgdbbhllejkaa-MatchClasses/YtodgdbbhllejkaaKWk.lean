/- 'wakes': three pixels, two classes. -/
import Derived.Test.YtodgdbbhllejkaaKWl
import Derived.Deep.Cut
import Derived.Deep.CutRange
namespace Go.Proofs.Ytodgdbbhllejkaa
open Go.RowKit

set_option linter.unusedSimpArgs false in
set_option maxRecDepth 100000 in
set_option maxHeartbeats 4000000 in
theorem wakes_any (w : World) : Calls Try.prog 10 #[] w fun e w' => e = .returned (.bool true) ∧ Fr (fun _ => False) w w' := by
  have HWH : Hid (∀ w', Calls Try.prog 26 #[.int .i64 1, .int .i64 1] w' fun e w'' => ∃ gW, e = .returned (.agg #[.int .i64 1, .int .i64 1, .slice (some ⟨gW, 0, none⟩) 1 1]) ∧ Seen w'' (.slice (some ⟨gW, 0, none⟩) 1 1) [0] ∧ Fr (fun _ => False) w' w'' ∧ w'.heap.size ≤ gW) := fun w' => by
    refine (zwhite_any 1 1 w' (by omega) (by omega) (by omega)).mono ?_
    rintro e w'' ⟨g, he, hr, hf, hg⟩
    exact ⟨g, he, hr.seen (by decide), hf, hg⟩
  have HWI : Hid (∀ w', Calls Try.prog 26 #[.int .i64 2, .int .i64 1] w' fun e w'' => ∃ gW, e = .returned (.agg #[.int .i64 2, .int .i64 1, .slice (some ⟨gW, 0, none⟩) 1 1]) ∧ Seen w'' (.slice (some ⟨gW, 0, none⟩) 1 1) [0] ∧ Fr (fun _ => False) w' w'' ∧ w'.heap.size ≤ gW) := fun w' => by
    refine (zwhite_any 2 1 w' (by omega) (by omega) (by omega)).mono ?_
    rintro e w'' ⟨g, he, hr, hf, hg⟩
    exact ⟨g, he, hr.seen (by decide), hf, hg⟩
  have HA : Hid (Fr (fun _ => False) w ((w.alloc (.cells #[.int .u64 9223372036854775808] 23)).alloc (.cells #[.int .i64 1, .int .i64 1, .slice (some ⟨w.heap.size, 0, none⟩) 1 1] 48))) := ((Fr.refl _ _).alloc _).alloc _
  have HS0 : Hid (Seen ((w.alloc (.cells #[.int .u64 9223372036854775808] 23)).alloc (.cells #[.int .i64 1, .int .i64 1, .slice (some ⟨w.heap.size, 0, none⟩) 1 1] 48)) (.slice (some ⟨w.heap.size, 0, none⟩) 1 1) [9223372036854775808]) := by
    refine ⟨some ⟨w.heap.size, 0, none⟩, 1, rfl, by decide, fun _ => ⟨w.heap.size, 0, rfl, fun j hj => ?_⟩⟩
    have hj0 : j = 0 := by simpa using hj
    subst hj0
    have := blkUp (heap_alloc_new w (.cells #[.int .u64 9223372036854775808] 23)) (.cells #[.int .i64 1, .int .i64 1, .slice (some ⟨w.heap.size, 0, none⟩) 1 1] 48)
    unfold World.cell?
    simp only [Nat.zero_add, this]
    rfl
  have HS : Hid (∀ w' : World, Fr (fun _ => False) ((w.alloc (.cells #[.int .u64 9223372036854775808] 23)).alloc (.cells #[.int .i64 1, .int .i64 1, .slice (some ⟨w.heap.size, 0, none⟩) 1 1] 48)) w' → w'.cell? ⟨w.heap.size + 1, 0, none⟩ = some (.int .i64 1) ∧ w'.cell? ⟨w.heap.size + 1, 1, none⟩ = some (.int .i64 1) ∧ w'.cell? ⟨w.heap.size + 1, 2, none⟩ = some (.slice (some ⟨w.heap.size, 0, none⟩) 1 1)) := fun w' f => by
    have h := heap_alloc_new (w.alloc (.cells #[.int .u64 9223372036854775808] 23)) (.cells #[.int .i64 1, .int .i64 1, .slice (some ⟨w.heap.size, 0, none⟩) 1 1] 48)
    rw [World.size_alloc] at h
    obtain ⟨a, b, c, _⟩ := cell_of_three (blkOld f h)
    exact ⟨a, b, c⟩
  have HCL : Hid (∀ (W : World) (kb gW : Nat), Fr (fun _ => False) ((w.alloc (.cells #[.int .u64 9223372036854775808] 23)).alloc (.cells #[.int .i64 1, .int .i64 1, .slice (some ⟨w.heap.size, 0, none⟩) 1 1] 48)) W → Seen W (.slice (some ⟨gW, 0, none⟩) 1 1) [0] → W.heap[kb]? = some (.cells #[.int .i64 1, .int .i64 1, .slice (some ⟨w.heap.size, 0, none⟩) 1 1, .int .i64 1, .int .i64 1, .slice (some ⟨gW, 0, none⟩) 1 1, .int .i64 1, .int .i64 1, .slice (some ⟨w.heap.size, 0, none⟩) 1 1] 48 (0, 0)) → Calls Try.prog 14 #[.slice (some ⟨kb, 0, none⟩) 3 3, .float .f64 0] W fun e w' => ∃ cv rv U, e = .returned (.tuple #[.agg #[cv, rv], .int .i64 0]) ∧ Mat w' W.heap.size cv rv (A3 w.heap.size gW) [0, 1, 0] [0, 1] U ∧ Fr (fun _ => False) W w') := fun W kb gW f s1 hb => wk_classes W kb w.heap.size gW (HS0.out.kept f) s1 hb
  go_enter Try.func10, Try.ntmps10
  go_upto_region 2 with (fail)
  generalize (w.alloc (.cells #[.int .u64 9223372036854775808] 23)).alloc (.cells #[.int .i64 1, .int .i64 1, .slice (some ⟨w.heap.size, 0, none⟩) 1 1] 48) = w0 at *
  go_cut [2, 3] from 6 to 45 (fun u e wc => ∃ o cv rv U gW, u = .pointer (some ⟨o, 0, none⟩) ∧ e = .int .i64 0 ∧ wc.heap[o]? = some (.cells #[cv, rv] 33 (0, 0)) ∧ Mat wc 0 cv rv (A3 w.heap.size gW) [0, 1, 0] [0, 1] U ∧ Fr (fun _ => False) w0 wc)
  case first =>
    refine wp_region_held_drew (S := (fun w' => w'.cell? ⟨w.heap.size + 1, 0, none⟩ = some (.int .i64 1) ∧ w'.cell? ⟨w.heap.size + 1, 1, none⟩ = some (.int .i64 1) ∧ w'.cell? ⟨w.heap.size + 1, 2, none⟩ = some (.slice (some ⟨w.heap.size, 0, none⟩) 1 1))) (by kernel_rfl) (HS.out _ (Fr.drew (Fr.refl _ w0))) (fun hHeld => ?_)
    refine wpAnyH_take (i := 0) (oi := _) (v := ?vv0x1) rfl (by kernel_rfl) (by kernel_rfl) (by kernel_rfl) (fun _ _ _ h => h) (Or.inl ⟨by kernel_rfl, ?hy0x1⟩) (by assumption) ?_
    case hy0x1 => (intro w hSw; (try dsimp only at hSw); obtain ⟨s0, s1, s2⟩ := hSw; go_simp; all_goals (with_reducible rfl))
    (try simp only [Act.put, List.setIfInBounds_toArray, List.set_cons_zero, List.set_cons_succ])
    refine wpAnyH_take (i := 2) (oi := _) (v := ?vv2x2) rfl (by kernel_rfl) (by kernel_rfl) (by kernel_rfl) (fun _ _ _ h => h) (Or.inl ⟨by kernel_rfl, ?hy2x2⟩) (by assumption) ?_
    case hy2x2 => (intro w hSw; (try dsimp only at hSw); obtain ⟨s0, s1, s2⟩ := hSw; go_simp; all_goals (with_reducible rfl))
    (try simp only [Act.put, List.setIfInBounds_toArray, List.set_cons_zero, List.set_cons_succ])
    refine wpAnyH_ready (rs := [1, 8]) (by kernel_rfl) (by simp) ?_
    refine (AllReadyH.cons (o := _) rfl (fun K hK => ?_) (AllReadyH.cons (o := _) rfl (fun K hK => ?_) AllReadyH.nil))
    · go_simp
      refine (HWH.out _).mono ?_
      rintro e w6 ⟨gW, rfl, hrow, hf6, hgW⟩
      have hg6 : Hid (Fr (fun _ => False) w0.drew w6) := hf6
      have hh6 : Hid (Fr (fun _ => False) w0 w6) := Fr.trans (Fr.drew (Fr.refl (fun _ => False) w0)) hf6 (fun _ _ h => h)
      have hs6 : Hid (Seen w6 (.slice (some ⟨gW, 0, none⟩) 1 1) [0]) := hrow
      clear hf6 hrow hgW
      go_simp
      refine hK.out _ _ (HS.out _ hh6.out) (fun hHeld => ?_)
      clear hK K
      (try simp only [Act.put, List.setIfInBounds_toArray, List.set_cons_zero, List.set_cons_succ])
      refine wpAnyH_ready (rs := [3, 8]) (by kernel_rfl) (by simp) ?_
      refine (AllReadyH.cons (o := _) rfl (fun K hK => ?_) (AllReadyH.cons (o := _) rfl (fun K hK => ?_) AllReadyH.nil))
      · go_simp
        refine hK.out _ _ (HS.out _ (Fr.alloc hh6.out (.cells #[.int .i64 1, .int .i64 1, (.slice (some ⟨w.heap.size, 0, none⟩) 1 1), .int .i64 1, .int .i64 1, (.slice (some ⟨gW, 0, none⟩) 1 1), .int .i64 1, .int .i64 1, (.slice (some ⟨w.heap.size, 0, none⟩) 1 1)] 48))) (fun hHeld => ?_)
        clear hK K
        (try simp only [Act.put, List.setIfInBounds_toArray, List.set_cons_zero, List.set_cons_succ])
        refine wpAnyH_ready (rs := [4, 8]) (by kernel_rfl) (by simp) ?_
        refine (AllReadyH.cons (o := _) rfl (fun K hK => ?_) (AllReadyH.cons (o := _) rfl (fun K hK => ?_) AllReadyH.nil))
        · go_simp
          refine Calls.mono (HCL.out _ w6.heap.size gW (Fr.alloc hh6.out (.cells #[.int .i64 1, .int .i64 1, (.slice (some ⟨w.heap.size, 0, none⟩) 1 1), .int .i64 1, .int .i64 1, (.slice (some ⟨gW, 0, none⟩) 1 1), .int .i64 1, .int .i64 1, (.slice (some ⟨w.heap.size, 0, none⟩) 1 1)] 48)) (Seen.kept hs6.out (Fr.alloc (Fr.refl (fun _ => False) w6) (.cells #[.int .i64 1, .int .i64 1, (.slice (some ⟨w.heap.size, 0, none⟩) 1 1), .int .i64 1, .int .i64 1, (.slice (some ⟨gW, 0, none⟩) 1 1), .int .i64 1, .int .i64 1, (.slice (some ⟨w.heap.size, 0, none⟩) 1 1)] 48))) (blkOld (Fr.refl (fun _ => False) (World.alloc w6 (.cells #[.int .i64 1, .int .i64 1, (.slice (some ⟨w.heap.size, 0, none⟩) 1 1), .int .i64 1, .int .i64 1, (.slice (some ⟨gW, 0, none⟩) 1 1), .int .i64 1, .int .i64 1, (.slice (some ⟨w.heap.size, 0, none⟩) 1 1)] 48))) (heap_alloc_new w6 (.cells #[.int .i64 1, .int .i64 1, (.slice (some ⟨w.heap.size, 0, none⟩) 1 1), .int .i64 1, .int .i64 1, (.slice (some ⟨gW, 0, none⟩) 1 1), .int .i64 1, .int .i64 1, (.slice (some ⟨w.heap.size, 0, none⟩) 1 1)] 48)))) ?_
          rintro e w7 ⟨cv, rv, U, rfl, hmat, hf7⟩
          have hg7 : Hid (Fr (fun _ => False) (World.alloc w6 (.cells #[.int .i64 1, .int .i64 1, (.slice (some ⟨w.heap.size, 0, none⟩) 1 1), .int .i64 1, .int .i64 1, (.slice (some ⟨gW, 0, none⟩) 1 1), .int .i64 1, .int .i64 1, (.slice (some ⟨w.heap.size, 0, none⟩) 1 1)] 48)) w7) := hf7
          have hh7 : Hid (Fr (fun _ => False) w0 w7) := Fr.trans (Fr.alloc hh6.out (.cells #[.int .i64 1, .int .i64 1, (.slice (some ⟨w.heap.size, 0, none⟩) 1 1), .int .i64 1, .int .i64 1, (.slice (some ⟨gW, 0, none⟩) 1 1), .int .i64 1, .int .i64 1, (.slice (some ⟨w.heap.size, 0, none⟩) 1 1)] 48)) hf7 (fun _ _ h => h)
          have hm7 : Hid (Mat w7 (World.heap (World.alloc w6 (.cells #[.int .i64 1, .int .i64 1, (.slice (some ⟨w.heap.size, 0, none⟩) 1 1), .int .i64 1, .int .i64 1, (.slice (some ⟨gW, 0, none⟩) 1 1), .int .i64 1, .int .i64 1, (.slice (some ⟨w.heap.size, 0, none⟩) 1 1)] 48))).size cv rv (A3 w.heap.size gW) [0, 1, 0] [0, 1] U) := hmat
          clear hf7 hmat
          go_simp
          refine hK.out _ _ (HS.out _ hh7.out) (fun hHeld => ?_)
          clear hK K
          (try simp only [Act.put, List.setIfInBounds_toArray, List.set_cons_zero, List.set_cons_succ])
          refine wpAnyH_take (i := 5) (oi := _) (v := ?vv5x3) rfl (by kernel_rfl) (by kernel_rfl) (by kernel_rfl) (fun _ _ _ h => h) (Or.inl ⟨by kernel_rfl, ?hy5x3⟩) (by assumption) ?_
          case hy5x3 => (intro w hSw; (try dsimp only at hSw); obtain ⟨s0, s1, s2⟩ := hSw; go_simp; all_goals (with_reducible rfl))
          (try simp only [Act.put, List.setIfInBounds_toArray, List.set_cons_zero, List.set_cons_succ])
          refine wpAnyH_take (i := 6) (oi := _) (v := ?vv6x4) rfl (by kernel_rfl) (by kernel_rfl) (by kernel_rfl) (fun _ _ _ h => h) (Or.inl ⟨by kernel_rfl, ?hy6x4⟩) (by assumption) ?_
          case hy6x4 => (intro w hSw; (try dsimp only at hSw); obtain ⟨s0, s1, s2⟩ := hSw; go_simp; all_goals (with_reducible rfl))
          (try simp only [Act.put, List.setIfInBounds_toArray, List.set_cons_zero, List.set_cons_succ])
          refine wpAnyH_take (i := 7) (oi := _) (v := ?vv7x5) rfl (by kernel_rfl) (by kernel_rfl) (by kernel_rfl) (fun _ _ _ h => h) (Or.inl ⟨by kernel_rfl, ?hy7x5⟩) (by assumption) ?_
          case hy7x5 => (intro w hSw; (try dsimp only at hSw); obtain ⟨s0, s1, s2⟩ := hSw; go_simp; all_goals (with_reducible rfl))
          (try simp only [Act.put, List.setIfInBounds_toArray, List.set_cons_zero, List.set_cons_succ])
          refine wpAnyH_ready (rs := [8]) (by kernel_rfl) (by simp) ?_
          refine (AllReadyH.cons (o := _) rfl (fun K hK => ?_) AllReadyH.nil)
          go_simp
          refine hK.out _ _ (HS.out _ (Fr.alloc hh7.out (.cells #[.slice none 0 0, .slice none 0 0] 33))) (fun hHeld => ?_)
          clear hK K
          (try simp only [Act.put, List.setIfInBounds_toArray, List.set_cons_zero, List.set_cons_succ])
          obtain ⟨ac, cc, hcv⟩ := own_slice hm7.out.cls
          obtain ⟨ar, cr, hrv⟩ := own_slice hm7.out.reps
          subst hcv hrv
          refine wpAnyH_ready (rs := [9]) (by kernel_rfl) (by simp) ?_
          refine (AllReadyH.cons (o := _) rfl (fun K hK => ?_) AllReadyH.nil)
          go_simp
          refine hK.out _ _ (HS.out _ (Fr.alloc hh7.out _)) (fun hHeld => ?_)
          clear hK K
          (try simp only [Act.put, List.setIfInBounds_toArray, List.set_cons_zero, List.set_cons_succ])
          refine wpAnyH_take (i := 10) (oi := _) (v := ?vv10x6) rfl (by kernel_rfl) (by kernel_rfl) (by kernel_rfl) (fun _ _ _ h => h) (Or.inl ⟨by kernel_rfl, ?hy10x6⟩) (by assumption) ?_
          case hy10x6 => (intro w hSw; (try dsimp only at hSw); obtain ⟨s0, s1, s2⟩ := hSw; go_simp; all_goals (with_reducible rfl))
          (try simp only [Act.put, List.setIfInBounds_toArray, List.set_cons_zero, List.set_cons_succ])
          refine wpAnyH_done (by kernel_rfl) ?_ _
          go_wp2_with fail
          go_meet
          exact ⟨_, _, _, U, gW, rfl, rfl, heap_alloc_new _ _, (hm7.out.kept ((Fr.refl (fun _ => False) w7).alloc _) (fun _ _ h => h)).base (Nat.zero_le _), Fr.alloc hh7.out _⟩
        · have hnew2 : Hid ((World.alloc (World.alloc w6 (.cells #[.int .i64 1, .int .i64 1, (.slice (some ⟨w.heap.size, 0, none⟩) 1 1), .int .i64 1, .int .i64 1, (.slice (some ⟨gW, 0, none⟩) 1 1), .int .i64 1, .int .i64 1, (.slice (some ⟨w.heap.size, 0, none⟩) 1 1)] 48)) (.cells #[.slice none 0 0, .slice none 0 0] 33)).heap[w6.heap.size + 1]? = some (.cells #[.slice none 0 0, .slice none 0 0] 33 (0, 0))) := by
            have := heap_alloc_new (World.alloc w6 (.cells #[.int .i64 1, .int .i64 1, (.slice (some ⟨w.heap.size, 0, none⟩) 1 1), .int .i64 1, .int .i64 1, (.slice (some ⟨gW, 0, none⟩) 1 1), .int .i64 1, .int .i64 1, (.slice (some ⟨w.heap.size, 0, none⟩) 1 1)] 48)) (.cells #[.slice none 0 0, .slice none 0 0] 33)
            rw [World.size_alloc] at this
            exact this
          go_simp
          refine hK.out _ _ (HS.out _ (Fr.alloc (Fr.alloc hh6.out (.cells #[.int .i64 1, .int .i64 1, (.slice (some ⟨w.heap.size, 0, none⟩) 1 1), .int .i64 1, .int .i64 1, (.slice (some ⟨gW, 0, none⟩) 1 1), .int .i64 1, .int .i64 1, (.slice (some ⟨w.heap.size, 0, none⟩) 1 1)] 48)) (.cells #[.slice none 0 0, .slice none 0 0] 33))) (fun hHeld => ?_)
          clear hK K
          (try simp only [Act.put, List.setIfInBounds_toArray, List.set_cons_zero, List.set_cons_succ])
          refine wpAnyH_ready (rs := [4]) (by kernel_rfl) (by simp) ?_
          refine (AllReadyH.cons (o := _) rfl (fun K hK => ?_) AllReadyH.nil)
          go_simp
          refine Calls.mono (HCL.out _ w6.heap.size gW (Fr.alloc (Fr.alloc hh6.out (.cells #[.int .i64 1, .int .i64 1, (.slice (some ⟨w.heap.size, 0, none⟩) 1 1), .int .i64 1, .int .i64 1, (.slice (some ⟨gW, 0, none⟩) 1 1), .int .i64 1, .int .i64 1, (.slice (some ⟨w.heap.size, 0, none⟩) 1 1)] 48)) (.cells #[.slice none 0 0, .slice none 0 0] 33)) (Seen.kept hs6.out (Fr.alloc (Fr.alloc (Fr.refl (fun _ => False) w6) (.cells #[.int .i64 1, .int .i64 1, (.slice (some ⟨w.heap.size, 0, none⟩) 1 1), .int .i64 1, .int .i64 1, (.slice (some ⟨gW, 0, none⟩) 1 1), .int .i64 1, .int .i64 1, (.slice (some ⟨w.heap.size, 0, none⟩) 1 1)] 48)) (.cells #[.slice none 0 0, .slice none 0 0] 33))) (blkOld (Fr.alloc (Fr.refl (fun _ => False) (World.alloc w6 (.cells #[.int .i64 1, .int .i64 1, (.slice (some ⟨w.heap.size, 0, none⟩) 1 1), .int .i64 1, .int .i64 1, (.slice (some ⟨gW, 0, none⟩) 1 1), .int .i64 1, .int .i64 1, (.slice (some ⟨w.heap.size, 0, none⟩) 1 1)] 48))) (.cells #[.slice none 0 0, .slice none 0 0] 33)) (heap_alloc_new w6 (.cells #[.int .i64 1, .int .i64 1, (.slice (some ⟨w.heap.size, 0, none⟩) 1 1), .int .i64 1, .int .i64 1, (.slice (some ⟨gW, 0, none⟩) 1 1), .int .i64 1, .int .i64 1, (.slice (some ⟨w.heap.size, 0, none⟩) 1 1)] 48)))) ?_
          rintro e w7 ⟨cv, rv, U, rfl, hmat, hf7⟩
          have hg7 : Hid (Fr (fun _ => False) (World.alloc (World.alloc w6 (.cells #[.int .i64 1, .int .i64 1, (.slice (some ⟨w.heap.size, 0, none⟩) 1 1), .int .i64 1, .int .i64 1, (.slice (some ⟨gW, 0, none⟩) 1 1), .int .i64 1, .int .i64 1, (.slice (some ⟨w.heap.size, 0, none⟩) 1 1)] 48)) (.cells #[.slice none 0 0, .slice none 0 0] 33)) w7) := hf7
          have hh7 : Hid (Fr (fun _ => False) w0 w7) := Fr.trans (Fr.alloc (Fr.alloc hh6.out (.cells #[.int .i64 1, .int .i64 1, (.slice (some ⟨w.heap.size, 0, none⟩) 1 1), .int .i64 1, .int .i64 1, (.slice (some ⟨gW, 0, none⟩) 1 1), .int .i64 1, .int .i64 1, (.slice (some ⟨w.heap.size, 0, none⟩) 1 1)] 48)) (.cells #[.slice none 0 0, .slice none 0 0] 33)) hf7 (fun _ _ h => h)
          have hm7 : Hid (Mat w7 (World.heap (World.alloc (World.alloc w6 (.cells #[.int .i64 1, .int .i64 1, (.slice (some ⟨w.heap.size, 0, none⟩) 1 1), .int .i64 1, .int .i64 1, (.slice (some ⟨gW, 0, none⟩) 1 1), .int .i64 1, .int .i64 1, (.slice (some ⟨w.heap.size, 0, none⟩) 1 1)] 48)) (.cells #[.slice none 0 0, .slice none 0 0] 33))).size cv rv (A3 w.heap.size gW) [0, 1, 0] [0, 1] U) := hmat
          clear hf7 hmat
          go_simp
          refine hK.out _ _ (HS.out _ hh7.out) (fun hHeld => ?_)
          clear hK K
          (try simp only [Act.put, List.setIfInBounds_toArray, List.set_cons_zero, List.set_cons_succ])
          refine wpAnyH_take (i := 5) (oi := _) (v := ?vv5x7) rfl (by kernel_rfl) (by kernel_rfl) (by kernel_rfl) (fun _ _ _ h => h) (Or.inl ⟨by kernel_rfl, ?hy5x7⟩) (by assumption) ?_
          case hy5x7 => (intro w hSw; (try dsimp only at hSw); obtain ⟨s0, s1, s2⟩ := hSw; go_simp; all_goals (with_reducible rfl))
          (try simp only [Act.put, List.setIfInBounds_toArray, List.set_cons_zero, List.set_cons_succ])
          refine wpAnyH_take (i := 6) (oi := _) (v := ?vv6x8) rfl (by kernel_rfl) (by kernel_rfl) (by kernel_rfl) (fun _ _ _ h => h) (Or.inl ⟨by kernel_rfl, ?hy6x8⟩) (by assumption) ?_
          case hy6x8 => (intro w hSw; (try dsimp only at hSw); obtain ⟨s0, s1, s2⟩ := hSw; go_simp; all_goals (with_reducible rfl))
          (try simp only [Act.put, List.setIfInBounds_toArray, List.set_cons_zero, List.set_cons_succ])
          refine wpAnyH_take (i := 7) (oi := _) (v := ?vv7x9) rfl (by kernel_rfl) (by kernel_rfl) (by kernel_rfl) (fun _ _ _ h => h) (Or.inl ⟨by kernel_rfl, ?hy7x9⟩) (by assumption) ?_
          case hy7x9 => (intro w hSw; (try dsimp only at hSw); obtain ⟨s0, s1, s2⟩ := hSw; go_simp; all_goals (with_reducible rfl))
          (try simp only [Act.put, List.setIfInBounds_toArray, List.set_cons_zero, List.set_cons_succ])
          obtain ⟨ac, cc, hcv⟩ := own_slice hm7.out.cls
          obtain ⟨ar, cr, hrv⟩ := own_slice hm7.out.reps
          subst hcv hrv
          have hbo : w7.heap[(w6.heap.size + 1)]? = some (.cells #[.slice none 0 0, .slice none 0 0] 33 (0, 0)) := blkOld (Fr.trans (Fr.refl (fun _ => False) (World.alloc (World.alloc w6 (.cells #[.int .i64 1, .int .i64 1, (.slice (some ⟨w.heap.size, 0, none⟩) 1 1), .int .i64 1, .int .i64 1, (.slice (some ⟨gW, 0, none⟩) 1 1), .int .i64 1, .int .i64 1, (.slice (some ⟨w.heap.size, 0, none⟩) 1 1)] 48)) (.cells #[.slice none 0 0, .slice none 0 0] 33))) hg7.out (fun _ _ h => h)) (hnew2.out)
          have hbo' : Hid (w7.heap[(w6.heap.size + 1)]? = some (.cells #[.slice none 0 0, .slice none 0 0] 33 (0, 0))) := hbo
          have hge : Hid (w0.heap.size ≤ (w6.heap.size + 1) ∧ (w6.heap.size + 1) < (World.heap (World.alloc (World.alloc w6 (.cells #[.int .i64 1, .int .i64 1, (.slice (some ⟨w.heap.size, 0, none⟩) 1 1), .int .i64 1, .int .i64 1, (.slice (some ⟨gW, 0, none⟩) 1 1), .int .i64 1, .int .i64 1, (.slice (some ⟨w.heap.size, 0, none⟩) 1 1)] 48)) (.cells #[.slice none 0 0, .slice none 0 0] 33))).size) := ⟨by have := hh6.out.size; omega, by show w6.heap.size + 1 < (World.heap (World.alloc (World.alloc w6 _) _)).size; rw [World.size_alloc, World.size_alloc]; omega⟩
          have hfz : Hid (∀ a b : Value, Fr (fun k => k = (w6.heap.size + 1)) w7 ((w7.setCell ⟨(w6.heap.size + 1), 0, none⟩ a).setCell ⟨(w6.heap.size + 1), 1, none⟩ b)) := fun a b => ((Fr.refl (fun k => k = (w6.heap.size + 1)) w7).setCell (p := ⟨(w6.heap.size + 1), 0, none⟩) (fun _ => rfl) _).setCell (p := ⟨(w6.heap.size + 1), 1, none⟩) (fun _ => rfl) _
          obtain ⟨p0, p1, pf⟩ := two_cells hbo
          have q0 := pf 0
          have q1 := pf 1
          clear pf hbo
          refine wpAnyH_ready (rs := [9]) (by kernel_rfl) (by simp) ?_
          refine (AllReadyH.cons (o := _) rfl (fun K hK => ?_) AllReadyH.nil)
          go_simp
          refine hK.out _ _ (HS.out _ (Fr.trans hh7.out (hfz.out _ _) (fun k hk h => by have := hge.out; omega))) (fun hHeld => ?_)
          clear hK K
          (try simp only [Act.put, List.setIfInBounds_toArray, List.set_cons_zero, List.set_cons_succ])
          refine wpAnyH_take (i := 10) (oi := _) (v := ?vv10x10) rfl (by kernel_rfl) (by kernel_rfl) (by kernel_rfl) (fun _ _ _ h => h) (Or.inl ⟨by kernel_rfl, ?hy10x10⟩) (by assumption) ?_
          case hy10x10 => (intro w hSw; (try dsimp only at hSw); obtain ⟨s0, s1, s2⟩ := hSw; go_simp; all_goals (with_reducible rfl))
          (try simp only [Act.put, List.setIfInBounds_toArray, List.set_cons_zero, List.set_cons_succ])
          refine wpAnyH_done (by kernel_rfl) ?_ _
          go_wp2_with fail
          go_meet
          exact ⟨_, _, _, U, gW, rfl, rfl, set2_cells hbo'.out _ _, (hm7.out.kept (hfz.out _ _) (fun k hk h => by have := hge.out; omega)).base (Nat.zero_le _), Fr.trans hh7.out (hfz.out _ _) (fun k hk h => by have := hge.out; omega)⟩
      · go_simp
        refine hK.out _ _ (HS.out _ (Fr.alloc hh6.out (.cells #[.slice none 0 0, .slice none 0 0] 33))) (fun hHeld => ?_)
        clear hK K
        (try simp only [Act.put, List.setIfInBounds_toArray, List.set_cons_zero, List.set_cons_succ])
        refine wpAnyH_ready (rs := [3]) (by kernel_rfl) (by simp) ?_
        refine (AllReadyH.cons (o := _) rfl (fun K hK => ?_) AllReadyH.nil)
        have hnewB : Hid ((World.alloc (World.alloc w6 (.cells #[.slice none 0 0, .slice none 0 0] 33)) (.cells #[.int .i64 1, .int .i64 1, (.slice (some ⟨w.heap.size, 0, none⟩) 1 1), .int .i64 1, .int .i64 1, (.slice (some ⟨gW, 0, none⟩) 1 1), .int .i64 1, .int .i64 1, (.slice (some ⟨w.heap.size, 0, none⟩) 1 1)] 48)).heap[w6.heap.size + 1]? = some (.cells #[.int .i64 1, .int .i64 1, (.slice (some ⟨w.heap.size, 0, none⟩) 1 1), .int .i64 1, .int .i64 1, (.slice (some ⟨gW, 0, none⟩) 1 1), .int .i64 1, .int .i64 1, (.slice (some ⟨w.heap.size, 0, none⟩) 1 1)] 48 (0, 0))) := by
          have := heap_alloc_new (World.alloc w6 (.cells #[.slice none 0 0, .slice none 0 0] 33)) (.cells #[.int .i64 1, .int .i64 1, (.slice (some ⟨w.heap.size, 0, none⟩) 1 1), .int .i64 1, .int .i64 1, (.slice (some ⟨gW, 0, none⟩) 1 1), .int .i64 1, .int .i64 1, (.slice (some ⟨w.heap.size, 0, none⟩) 1 1)] 48)
          rw [World.size_alloc] at this
          exact this
        go_simp
        refine hK.out _ _ (HS.out _ (Fr.alloc (Fr.alloc hh6.out (.cells #[.slice none 0 0, .slice none 0 0] 33)) (.cells #[.int .i64 1, .int .i64 1, (.slice (some ⟨w.heap.size, 0, none⟩) 1 1), .int .i64 1, .int .i64 1, (.slice (some ⟨gW, 0, none⟩) 1 1), .int .i64 1, .int .i64 1, (.slice (some ⟨w.heap.size, 0, none⟩) 1 1)] 48))) (fun hHeld => ?_)
        clear hK K
        (try simp only [Act.put, List.setIfInBounds_toArray, List.set_cons_zero, List.set_cons_succ])
        refine wpAnyH_ready (rs := [4]) (by kernel_rfl) (by simp) ?_
        refine (AllReadyH.cons (o := _) rfl (fun K hK => ?_) AllReadyH.nil)
        go_simp
        refine Calls.mono (HCL.out _ (w6.heap.size + 1) gW (Fr.alloc (Fr.alloc hh6.out (.cells #[.slice none 0 0, .slice none 0 0] 33)) (.cells #[.int .i64 1, .int .i64 1, (.slice (some ⟨w.heap.size, 0, none⟩) 1 1), .int .i64 1, .int .i64 1, (.slice (some ⟨gW, 0, none⟩) 1 1), .int .i64 1, .int .i64 1, (.slice (some ⟨w.heap.size, 0, none⟩) 1 1)] 48)) (Seen.kept hs6.out (Fr.alloc (Fr.alloc (Fr.refl (fun _ => False) w6) (.cells #[.slice none 0 0, .slice none 0 0] 33)) (.cells #[.int .i64 1, .int .i64 1, (.slice (some ⟨w.heap.size, 0, none⟩) 1 1), .int .i64 1, .int .i64 1, (.slice (some ⟨gW, 0, none⟩) 1 1), .int .i64 1, .int .i64 1, (.slice (some ⟨w.heap.size, 0, none⟩) 1 1)] 48))) (blkOld (Fr.refl (fun _ => False) (World.alloc (World.alloc w6 (.cells #[.slice none 0 0, .slice none 0 0] 33)) (.cells #[.int .i64 1, .int .i64 1, (.slice (some ⟨w.heap.size, 0, none⟩) 1 1), .int .i64 1, .int .i64 1, (.slice (some ⟨gW, 0, none⟩) 1 1), .int .i64 1, .int .i64 1, (.slice (some ⟨w.heap.size, 0, none⟩) 1 1)] 48))) hnewB.out)) ?_
        rintro e w7 ⟨cv, rv, U, rfl, hmat, hf7⟩
        have hg7 : Hid (Fr (fun _ => False) (World.alloc (World.alloc w6 (.cells #[.slice none 0 0, .slice none 0 0] 33)) (.cells #[.int .i64 1, .int .i64 1, (.slice (some ⟨w.heap.size, 0, none⟩) 1 1), .int .i64 1, .int .i64 1, (.slice (some ⟨gW, 0, none⟩) 1 1), .int .i64 1, .int .i64 1, (.slice (some ⟨w.heap.size, 0, none⟩) 1 1)] 48)) w7) := hf7
        have hh7 : Hid (Fr (fun _ => False) w0 w7) := Fr.trans (Fr.alloc (Fr.alloc hh6.out (.cells #[.slice none 0 0, .slice none 0 0] 33)) (.cells #[.int .i64 1, .int .i64 1, (.slice (some ⟨w.heap.size, 0, none⟩) 1 1), .int .i64 1, .int .i64 1, (.slice (some ⟨gW, 0, none⟩) 1 1), .int .i64 1, .int .i64 1, (.slice (some ⟨w.heap.size, 0, none⟩) 1 1)] 48)) hf7 (fun _ _ h => h)
        have hm7 : Hid (Mat w7 (World.heap (World.alloc (World.alloc w6 (.cells #[.slice none 0 0, .slice none 0 0] 33)) (.cells #[.int .i64 1, .int .i64 1, (.slice (some ⟨w.heap.size, 0, none⟩) 1 1), .int .i64 1, .int .i64 1, (.slice (some ⟨gW, 0, none⟩) 1 1), .int .i64 1, .int .i64 1, (.slice (some ⟨w.heap.size, 0, none⟩) 1 1)] 48))).size cv rv (A3 w.heap.size gW) [0, 1, 0] [0, 1] U) := hmat
        clear hf7 hmat
        go_simp
        refine hK.out _ _ (HS.out _ hh7.out) (fun hHeld => ?_)
        clear hK K
        (try simp only [Act.put, List.setIfInBounds_toArray, List.set_cons_zero, List.set_cons_succ])
        refine wpAnyH_take (i := 5) (oi := _) (v := ?vv5x11) rfl (by kernel_rfl) (by kernel_rfl) (by kernel_rfl) (fun _ _ _ h => h) (Or.inl ⟨by kernel_rfl, ?hy5x11⟩) (by assumption) ?_
        case hy5x11 => (intro w hSw; (try dsimp only at hSw); obtain ⟨s0, s1, s2⟩ := hSw; go_simp; all_goals (with_reducible rfl))
        (try simp only [Act.put, List.setIfInBounds_toArray, List.set_cons_zero, List.set_cons_succ])
        refine wpAnyH_take (i := 6) (oi := _) (v := ?vv6x12) rfl (by kernel_rfl) (by kernel_rfl) (by kernel_rfl) (fun _ _ _ h => h) (Or.inl ⟨by kernel_rfl, ?hy6x12⟩) (by assumption) ?_
        case hy6x12 => (intro w hSw; (try dsimp only at hSw); obtain ⟨s0, s1, s2⟩ := hSw; go_simp; all_goals (with_reducible rfl))
        (try simp only [Act.put, List.setIfInBounds_toArray, List.set_cons_zero, List.set_cons_succ])
        refine wpAnyH_take (i := 7) (oi := _) (v := ?vv7x13) rfl (by kernel_rfl) (by kernel_rfl) (by kernel_rfl) (fun _ _ _ h => h) (Or.inl ⟨by kernel_rfl, ?hy7x13⟩) (by assumption) ?_
        case hy7x13 => (intro w hSw; (try dsimp only at hSw); obtain ⟨s0, s1, s2⟩ := hSw; go_simp; all_goals (with_reducible rfl))
        (try simp only [Act.put, List.setIfInBounds_toArray, List.set_cons_zero, List.set_cons_succ])
        obtain ⟨ac, cc, hcv⟩ := own_slice hm7.out.cls
        obtain ⟨ar, cr, hrv⟩ := own_slice hm7.out.reps
        subst hcv hrv
        have hbo : w7.heap[w6.heap.size]? = some (.cells #[.slice none 0 0, .slice none 0 0] 33 (0, 0)) := blkOld (Fr.trans (Fr.alloc (Fr.refl (fun _ => False) (World.alloc w6 (.cells #[.slice none 0 0, .slice none 0 0] 33))) (.cells #[.int .i64 1, .int .i64 1, (.slice (some ⟨w.heap.size, 0, none⟩) 1 1), .int .i64 1, .int .i64 1, (.slice (some ⟨gW, 0, none⟩) 1 1), .int .i64 1, .int .i64 1, (.slice (some ⟨w.heap.size, 0, none⟩) 1 1)] 48)) hg7.out (fun _ _ h => h)) (heap_alloc_new w6 _)
        have hbo' : Hid (w7.heap[w6.heap.size]? = some (.cells #[.slice none 0 0, .slice none 0 0] 33 (0, 0))) := hbo
        have hge : Hid (w0.heap.size ≤ w6.heap.size ∧ w6.heap.size < (World.heap (World.alloc (World.alloc w6 (.cells #[.slice none 0 0, .slice none 0 0] 33)) (.cells #[.int .i64 1, .int .i64 1, (.slice (some ⟨w.heap.size, 0, none⟩) 1 1), .int .i64 1, .int .i64 1, (.slice (some ⟨gW, 0, none⟩) 1 1), .int .i64 1, .int .i64 1, (.slice (some ⟨w.heap.size, 0, none⟩) 1 1)] 48))).size) := ⟨hh6.out.size, by show w6.heap.size < (World.heap (World.alloc (World.alloc w6 _) _)).size; rw [World.size_alloc, World.size_alloc]; omega⟩
        have hfz : Hid (∀ a b : Value, Fr (fun k => k = w6.heap.size) w7 ((w7.setCell ⟨w6.heap.size, 0, none⟩ a).setCell ⟨w6.heap.size, 1, none⟩ b)) := fun a b => ((Fr.refl (fun k => k = w6.heap.size) w7).setCell (p := ⟨w6.heap.size, 0, none⟩) (fun _ => rfl) _).setCell (p := ⟨w6.heap.size, 1, none⟩) (fun _ => rfl) _
        obtain ⟨p0, p1, pf⟩ := two_cells hbo
        have q0 := pf 0
        have q1 := pf 1
        clear pf hbo
        refine wpAnyH_ready (rs := [9]) (by kernel_rfl) (by simp) ?_
        refine (AllReadyH.cons (o := _) rfl (fun K hK => ?_) AllReadyH.nil)
        go_simp
        refine hK.out _ _ (HS.out _ (Fr.trans hh7.out (hfz.out _ _) (fun k hk h => by have := hge.out; omega))) (fun hHeld => ?_)
        clear hK K
        (try simp only [Act.put, List.setIfInBounds_toArray, List.set_cons_zero, List.set_cons_succ])
        refine wpAnyH_take (i := 10) (oi := _) (v := ?vv10x14) rfl (by kernel_rfl) (by kernel_rfl) (by kernel_rfl) (fun _ _ _ h => h) (Or.inl ⟨by kernel_rfl, ?hy10x14⟩) (by assumption) ?_
        case hy10x14 => (intro w hSw; (try dsimp only at hSw); obtain ⟨s0, s1, s2⟩ := hSw; go_simp; all_goals (with_reducible rfl))
        (try simp only [Act.put, List.setIfInBounds_toArray, List.set_cons_zero, List.set_cons_succ])
        refine wpAnyH_done (by kernel_rfl) ?_ _
        go_wp2_with fail
        go_meet
        exact ⟨_, _, _, U, gW, rfl, rfl, set2_cells hbo'.out _ _, (hm7.out.kept (hfz.out _ _) (fun k hk h => by have := hge.out; omega)).base (Nat.zero_le _), Fr.trans hh7.out (hfz.out _ _) (fun k hk h => by have := hge.out; omega)⟩
    · go_simp
      refine hK.out _ _ (HS.out _ (Fr.alloc (Fr.drew (Fr.refl (fun _ => False) w0)) (.cells #[.slice none 0 0, .slice none 0 0] 33))) (fun hHeld => ?_)
      clear hK K
      (try simp only [Act.put, List.setIfInBounds_toArray, List.set_cons_zero, List.set_cons_succ])
      refine wpAnyH_ready (rs := [1]) (by kernel_rfl) (by simp) ?_
      refine (AllReadyH.cons (o := _) rfl (fun K hK => ?_) AllReadyH.nil)
      go_simp
      refine (HWH.out _).mono ?_
      rintro e w6 ⟨gW, rfl, hrow, hf6, hgW⟩
      have hg6 : Hid (Fr (fun _ => False) (World.alloc w0.drew (.cells #[.slice none 0 0, .slice none 0 0] 33)) w6) := hf6
      have hh6 : Hid (Fr (fun _ => False) w0 w6) := Fr.trans (Fr.alloc (Fr.drew (Fr.refl (fun _ => False) w0)) (.cells #[.slice none 0 0, .slice none 0 0] 33)) hf6 (fun _ _ h => h)
      have hs6 : Hid (Seen w6 (.slice (some ⟨gW, 0, none⟩) 1 1) [0]) := hrow
      clear hf6 hrow hgW
      go_simp
      refine hK.out _ _ (HS.out _ hh6.out) (fun hHeld => ?_)
      clear hK K
      (try simp only [Act.put, List.setIfInBounds_toArray, List.set_cons_zero, List.set_cons_succ])
      refine wpAnyH_ready (rs := [3]) (by kernel_rfl) (by simp) ?_
      refine (AllReadyH.cons (o := _) rfl (fun K hK => ?_) AllReadyH.nil)
      go_simp
      refine hK.out _ _ (HS.out _ (Fr.alloc hh6.out (.cells #[.int .i64 1, .int .i64 1, (.slice (some ⟨w.heap.size, 0, none⟩) 1 1), .int .i64 1, .int .i64 1, (.slice (some ⟨gW, 0, none⟩) 1 1), .int .i64 1, .int .i64 1, (.slice (some ⟨w.heap.size, 0, none⟩) 1 1)] 48))) (fun hHeld => ?_)
      clear hK K
      (try simp only [Act.put, List.setIfInBounds_toArray, List.set_cons_zero, List.set_cons_succ])
      refine wpAnyH_ready (rs := [4]) (by kernel_rfl) (by simp) ?_
      refine (AllReadyH.cons (o := _) rfl (fun K hK => ?_) AllReadyH.nil)
      go_simp
      refine Calls.mono (HCL.out _ w6.heap.size gW (Fr.alloc hh6.out (.cells #[.int .i64 1, .int .i64 1, (.slice (some ⟨w.heap.size, 0, none⟩) 1 1), .int .i64 1, .int .i64 1, (.slice (some ⟨gW, 0, none⟩) 1 1), .int .i64 1, .int .i64 1, (.slice (some ⟨w.heap.size, 0, none⟩) 1 1)] 48)) (Seen.kept hs6.out (Fr.alloc (Fr.refl (fun _ => False) w6) (.cells #[.int .i64 1, .int .i64 1, (.slice (some ⟨w.heap.size, 0, none⟩) 1 1), .int .i64 1, .int .i64 1, (.slice (some ⟨gW, 0, none⟩) 1 1), .int .i64 1, .int .i64 1, (.slice (some ⟨w.heap.size, 0, none⟩) 1 1)] 48))) (blkOld (Fr.refl (fun _ => False) (World.alloc w6 (.cells #[.int .i64 1, .int .i64 1, (.slice (some ⟨w.heap.size, 0, none⟩) 1 1), .int .i64 1, .int .i64 1, (.slice (some ⟨gW, 0, none⟩) 1 1), .int .i64 1, .int .i64 1, (.slice (some ⟨w.heap.size, 0, none⟩) 1 1)] 48))) (heap_alloc_new w6 (.cells #[.int .i64 1, .int .i64 1, (.slice (some ⟨w.heap.size, 0, none⟩) 1 1), .int .i64 1, .int .i64 1, (.slice (some ⟨gW, 0, none⟩) 1 1), .int .i64 1, .int .i64 1, (.slice (some ⟨w.heap.size, 0, none⟩) 1 1)] 48)))) ?_
      rintro e w7 ⟨cv, rv, U, rfl, hmat, hf7⟩
      have hg7 : Hid (Fr (fun _ => False) (World.alloc w6 (.cells #[.int .i64 1, .int .i64 1, (.slice (some ⟨w.heap.size, 0, none⟩) 1 1), .int .i64 1, .int .i64 1, (.slice (some ⟨gW, 0, none⟩) 1 1), .int .i64 1, .int .i64 1, (.slice (some ⟨w.heap.size, 0, none⟩) 1 1)] 48)) w7) := hf7
      have hh7 : Hid (Fr (fun _ => False) w0 w7) := Fr.trans (Fr.alloc hh6.out (.cells #[.int .i64 1, .int .i64 1, (.slice (some ⟨w.heap.size, 0, none⟩) 1 1), .int .i64 1, .int .i64 1, (.slice (some ⟨gW, 0, none⟩) 1 1), .int .i64 1, .int .i64 1, (.slice (some ⟨w.heap.size, 0, none⟩) 1 1)] 48)) hf7 (fun _ _ h => h)
      have hm7 : Hid (Mat w7 (World.heap (World.alloc w6 (.cells #[.int .i64 1, .int .i64 1, (.slice (some ⟨w.heap.size, 0, none⟩) 1 1), .int .i64 1, .int .i64 1, (.slice (some ⟨gW, 0, none⟩) 1 1), .int .i64 1, .int .i64 1, (.slice (some ⟨w.heap.size, 0, none⟩) 1 1)] 48))).size cv rv (A3 w.heap.size gW) [0, 1, 0] [0, 1] U) := hmat
      clear hf7 hmat
      go_simp
      refine hK.out _ _ (HS.out _ hh7.out) (fun hHeld => ?_)
      clear hK K
      (try simp only [Act.put, List.setIfInBounds_toArray, List.set_cons_zero, List.set_cons_succ])
      refine wpAnyH_take (i := 5) (oi := _) (v := ?vv5x15) rfl (by kernel_rfl) (by kernel_rfl) (by kernel_rfl) (fun _ _ _ h => h) (Or.inl ⟨by kernel_rfl, ?hy5x15⟩) (by assumption) ?_
      case hy5x15 => (intro w hSw; (try dsimp only at hSw); obtain ⟨s0, s1, s2⟩ := hSw; go_simp; all_goals (with_reducible rfl))
      (try simp only [Act.put, List.setIfInBounds_toArray, List.set_cons_zero, List.set_cons_succ])
      refine wpAnyH_take (i := 6) (oi := _) (v := ?vv6x16) rfl (by kernel_rfl) (by kernel_rfl) (by kernel_rfl) (fun _ _ _ h => h) (Or.inl ⟨by kernel_rfl, ?hy6x16⟩) (by assumption) ?_
      case hy6x16 => (intro w hSw; (try dsimp only at hSw); obtain ⟨s0, s1, s2⟩ := hSw; go_simp; all_goals (with_reducible rfl))
      (try simp only [Act.put, List.setIfInBounds_toArray, List.set_cons_zero, List.set_cons_succ])
      refine wpAnyH_take (i := 7) (oi := _) (v := ?vv7x17) rfl (by kernel_rfl) (by kernel_rfl) (by kernel_rfl) (fun _ _ _ h => h) (Or.inl ⟨by kernel_rfl, ?hy7x17⟩) (by assumption) ?_
      case hy7x17 => (intro w hSw; (try dsimp only at hSw); obtain ⟨s0, s1, s2⟩ := hSw; go_simp; all_goals (with_reducible rfl))
      (try simp only [Act.put, List.setIfInBounds_toArray, List.set_cons_zero, List.set_cons_succ])
      obtain ⟨ac, cc, hcv⟩ := own_slice hm7.out.cls
      obtain ⟨ar, cr, hrv⟩ := own_slice hm7.out.reps
      subst hcv hrv
      have hbo : w7.heap[w0.heap.size]? = some (.cells #[.slice none 0 0, .slice none 0 0] 33 (0, 0)) := blkOld (Fr.trans (Fr.alloc (Fr.trans (Fr.refl (fun _ => False) (World.alloc w0.drew (.cells #[.slice none 0 0, .slice none 0 0] 33))) hg6.out (fun _ _ h => h)) (.cells #[.int .i64 1, .int .i64 1, (.slice (some ⟨w.heap.size, 0, none⟩) 1 1), .int .i64 1, .int .i64 1, (.slice (some ⟨gW, 0, none⟩) 1 1), .int .i64 1, .int .i64 1, (.slice (some ⟨w.heap.size, 0, none⟩) 1 1)] 48)) hg7.out (fun _ _ h => h)) (heap_alloc_new w0.drew _)
      have hbo' : Hid (w7.heap[w0.heap.size]? = some (.cells #[.slice none 0 0, .slice none 0 0] 33 (0, 0))) := hbo
      have hge : Hid (w0.heap.size ≤ w0.heap.size ∧ w0.heap.size < (World.heap (World.alloc w6 (.cells #[.int .i64 1, .int .i64 1, (.slice (some ⟨w.heap.size, 0, none⟩) 1 1), .int .i64 1, .int .i64 1, (.slice (some ⟨gW, 0, none⟩) 1 1), .int .i64 1, .int .i64 1, (.slice (some ⟨w.heap.size, 0, none⟩) 1 1)] 48))).size) := ⟨Nat.le_refl _, by have h := hg6.out.size; rw [World.size_alloc] at h; show w0.heap.size < (World.heap (World.alloc w6 _)).size; rw [World.size_alloc]; have : w0.drew.heap.size = w0.heap.size := rfl; omega⟩
      have hfz : Hid (∀ a b : Value, Fr (fun k => k = w0.heap.size) w7 ((w7.setCell ⟨w0.heap.size, 0, none⟩ a).setCell ⟨w0.heap.size, 1, none⟩ b)) := fun a b => ((Fr.refl (fun k => k = w0.heap.size) w7).setCell (p := ⟨w0.heap.size, 0, none⟩) (fun _ => rfl) _).setCell (p := ⟨w0.heap.size, 1, none⟩) (fun _ => rfl) _
      obtain ⟨p0, p1, pf⟩ := two_cells hbo
      have q0 := pf 0
      have q1 := pf 1
      clear pf hbo
      refine wpAnyH_ready (rs := [9]) (by kernel_rfl) (by simp) ?_
      refine (AllReadyH.cons (o := _) rfl (fun K hK => ?_) AllReadyH.nil)
      go_simp
      refine hK.out _ _ (HS.out _ (Fr.trans hh7.out (hfz.out _ _) (fun k hk h => by have := hge.out; omega))) (fun hHeld => ?_)
      clear hK K
      (try simp only [Act.put, List.setIfInBounds_toArray, List.set_cons_zero, List.set_cons_succ])
      refine wpAnyH_take (i := 10) (oi := _) (v := ?vv10x18) rfl (by kernel_rfl) (by kernel_rfl) (by kernel_rfl) (fun _ _ _ h => h) (Or.inl ⟨by kernel_rfl, ?hy10x18⟩) (by assumption) ?_
      case hy10x18 => (intro w hSw; (try dsimp only at hSw); obtain ⟨s0, s1, s2⟩ := hSw; go_simp; all_goals (with_reducible rfl))
      (try simp only [Act.put, List.setIfInBounds_toArray, List.set_cons_zero, List.set_cons_succ])
      refine wpAnyH_done (by kernel_rfl) ?_ _
      go_wp2_with fail
      go_meet
      exact ⟨_, _, _, U, gW, rfl, rfl, set2_cells hbo'.out _ _, (hm7.out.kept (hfz.out _ _) (fun k hk h => by have := hge.out; omega)).base (Nat.zero_le _), Fr.trans hh7.out (hfz.out _ _) (fun k hk h => by have := hge.out; omega)⟩
  case rest =>
    obtain ⟨o, cv, rv, U, gW, rfl, rfl, hbo, hmt, hf⟩ := hcut
    have HFC : Hid (Fr (fun _ => False) w wc) := HA.out.trans hf (fun _ _ h => h)
    have HBO : Hid (∀ w', Fr (fun _ => False) wc w' → w'.cell? ⟨o, 0, none⟩ = some cv ∧ w'.cell? ⟨o, 1, none⟩ = some rv) := fun w' f => by
      obtain ⟨a, b, _⟩ := two_cells (blkOld f hbo)
      exact ⟨a, b⟩
    have HI1 : Hid (∀ w', Fr (fun _ => False) wc w' → SeenI w' cv [0, 1, 0]) := fun w' f => (SeenI.of_row hmt.cls (by decide)).kept f
    obtain ⟨ac, cc, hcv⟩ : ∃ ac cc, cv = .slice ac 3 cc := own_slice hmt.cls
    obtain ⟨ar, cr, hrv⟩ : ∃ ar cr, rv = .slice ar 2 cr := own_slice hmt.reps
    subst hcv hrv
    clear hbo hmt hf HS HS0 HCL HA
    go_wp2_with fail
    refine (HWI.out _).mono ?_
    rintro e w8 ⟨g8, rfl, s8, f8, -⟩
    have HS8 : Hid (Seen w8 (.slice (some ⟨g8, 0, none⟩) 1 1) [0]) := s8
    have HF8 : Hid (Fr (fun _ => False) wc w8) := f8
    clear s8 f8
    go_wp2_with fail
    refine (HWH.out _).mono ?_
    rintro e w9 ⟨g9, rfl, s9, f9, -⟩
    have HS9 : Hid (Seen w9 (.slice (some ⟨g9, 0, none⟩) 1 1) [0] ∧ Seen w9 (.slice (some ⟨g8, 0, none⟩) 1 1) [0]) := ⟨s9, HS8.out.kept f9⟩
    have HF9 : Hid (Fr (fun _ => False) wc w9) := HF8.out.trans f9 (fun _ _ h => h)
    clear s9 f9
    go_wp2_with fail
    refine Calls.mono (wk_order _ w9.heap.size g8 g9 (HS9.out.2.kept ((Fr.refl (fun _ => False) w9).alloc _)) (HS9.out.1.kept ((Fr.refl (fun _ => False) w9).alloc _)) (heap_alloc_new w9 _)) ?_
    rintro e w10 ⟨v, rfl, hov, f10⟩
    obtain ⟨av, cv2, hvv⟩ := own_slice hov
    subst hvv
    have HI2 : Hid (∀ w', Fr (fun _ => False) w10 w' → SeenI w' (.slice av 2 cv2) [1, 0]) := fun w' f => (SeenI.of_row hov (by decide)).kept f
    have HFX : Hid (Fr (fun _ => False) wc w10) := (HF9.out.alloc _).trans f10 (fun _ _ h => h)
    clear hov f10
    obtain ⟨c0, c1⟩ := HBO.out _ HFX.out
    have e0 : ((2 : Int) == 2) = true := by decide
    go_wp2_with fail
    refine Calls.mono (eqInts_any _ _ [0, 1, 0] [0, 1, 0] _ (HI1.out _ (HFX.out.alloc _)) (made_ints w10 [0, 1, 0] (by decide))) ?_
    rintro e w11 ⟨rfl, f11⟩
    have HF11 : Hid (Fr (fun _ => False) w10 w11) := ((Fr.refl (fun _ => False) w10).alloc _).trans f11 (fun _ _ h => h)
    clear f11 c0 c1
    obtain ⟨c0, c1⟩ := HBO.out _ (HFX.out.trans HF11.out (fun _ _ h => h))
    go_wp2_with fail
    refine Calls.mono (eqInts_any _ _ [1, 0] [1, 0] _ (HI2.out _ (HF11.out.alloc _)) (made_ints w11 [1, 0] (by decide))) ?_
    rintro e w12 ⟨rfl, f12⟩
    have HF12 : Hid (Fr (fun _ => False) w w12) := (((HFC.out.trans HFX.out (fun _ _ h => h)).trans HF11.out (fun _ _ h => h)).alloc _).trans f12 (fun _ _ h => h)
    clear f12
    go_wp2_with fail
    go_ret
    exact ⟨rfl, HF12.out⟩
end Go.Proofs.Ytodgdbbhllejkaa
