/- 'PutID', 'GetID'. -/
import Derived.Test.YtllhekkclhcdbaaDoorKPut
import Derived.Test.YtllhekkclhcdbaaDoorKTk
namespace Go.Proofs.YtllhekkclhcdbaaDoor
open Go.RowKit

set_option maxRecDepth 100000 in
theorem putID_nil (w : World) (b z i : Int) : Calls Tryd.prog 20 #[.pointer none, .int .i64 b, .int .i64 z, .int .i64 i] w fun e w' => e = .returned (.int .i64 53) ∧ w' = w := by
  go_enter Tryd.func20, Tryd.ntmps20
  go_wp2_with fail
  go_ret
  exact ⟨rfl, rfl⟩

set_option maxRecDepth 100000 in
theorem getID_nil (w : World) (b z : Int) : Calls Tryd.prog 32 #[.pointer none, .int .i64 b, .int .i64 z] w fun e w' => e = .returned (.tuple #[.int .i64 0, .int .i64 53]) ∧ w' = w := by
  go_enter Tryd.func32, Tryd.ntmps32
  go_wp2_with fail
  go_ret2
  exact ⟨rfl, rfl⟩

set_option maxRecDepth 100000 in
theorem putID_width (w : World) (bc : Nat) (b z i : Int) (h : ¬ (0 ≤ z ∧ z ≤ 12)) : Calls Tryd.prog 20 #[.pointer (some ⟨bc, 0, none⟩), .int .i64 b, .int .i64 z, .int .i64 i] w fun e w' => e = .returned (.int .i64 52) ∧ w' = w := by
  have HW : Hid (¬ (0 ≤ z ∧ z ≤ 12)) := h
  clear h
  go_enter Tryd.func20, Tryd.ntmps20
  go_wp2_with fail
  refine (isWidth_at _ z false (by rw [eq_comm, decide_eq_false_iff_not]; exact HW.out)).mono ?_
  rintro e w1 ⟨rfl, rfl⟩
  go_wp2_with fail
  go_ret
  exact ⟨rfl, rfl⟩

set_option maxRecDepth 100000 in
theorem getID_width (w : World) (bd : Nat) (b z : Int) (h : ¬ (0 ≤ z ∧ z ≤ 12)) : Calls Tryd.prog 32 #[.pointer (some ⟨bd, 0, none⟩), .int .i64 b, .int .i64 z] w fun e w' => e = .returned (.tuple #[.int .i64 0, .int .i64 52]) ∧ w' = w := by
  have HW : Hid (¬ (0 ≤ z ∧ z ≤ 12)) := h
  clear h
  go_enter Tryd.func32, Tryd.ntmps32
  go_wp2_with fail
  refine (isWidth_at _ z false (by rw [eq_comm, decide_eq_false_iff_not]; exact HW.out)).mono ?_
  rintro e w1 ⟨rfl, rfl⟩
  go_wp2_with fail
  go_ret2
  exact ⟨rfl, rfl⟩

set_option maxRecDepth 100000 in
set_option maxHeartbeats 2000000 in
set_option linter.unusedSimpArgs false in
theorem putID_base (w : World) (bc gc cc n width : Nat) (e0 : w.cell? ⟨bc, 0, none⟩ = some (.slice (some ⟨gc, 0, none⟩) n cc)) (hn : n ≤ 131072) (b : Int) (i : Int) (hw : width ≤ 12) (hb : -9223372036854775808 ≤ b ∧ b ≤ 9223372036854775807) (hbad : ¬ (0 ≤ b ∧ b ≤ (n : Int) - ((2 ^ width : Nat) : Int))) :
    Calls Tryd.prog 20 #[.pointer (some ⟨bc, 0, none⟩), .int .i64 b, .int .i64 (width : Int), .int .i64 i] w fun e w' => e = .returned (.int .i64 51) ∧ w' = w.drew := by
  have hp1 : 2 ^ width ≤ 2 ^ 12 := Nat.pow_le_pow_right (by decide) hw
  have mw : min width 64 = width := by omega
  obtain ⟨p, ep⟩ : ∃ p, 2 ^ width = p := ⟨_, rfl⟩
  rw [ep] at hp1
  have e2p : (2 ^ width : Int) = (p : Int) := by rw [← ep]; push_cast; rfl
  have kp : IntKind.i64.wrap (2 ^ width : Int) = (p : Int) := by rw [e2p, IntKind.wrap_i64]; omega
  have kp1 : IntKind.i64.wrap (1 * 2 ^ width : Int) = (p : Int) := by rw [Int.one_mul]; exact kp
  have HP : Hid (2 ^ width = p ∧ p ≤ 4096 ∧ 1 ≤ p) := ⟨ep, by omega, by rw [← ep]; exact Nat.two_pow_pos _⟩
  have H0 : Hid (w.drew.cell? ⟨bc, 0, none⟩ = some (.slice (some ⟨gc, 0, none⟩) n cc)) := e0
  have HN : Hid (n ≤ 131072) := hn
  rw [ep] at hbad
  have HB : Hid ((-9223372036854775808 ≤ b ∧ b ≤ 9223372036854775807) ∧ false = decide (0 ≤ b ∧ b ≤ (n : Int) - (p : Int))) := ⟨hb, by rw [eq_comm, decide_eq_false_iff_not]; exact hbad⟩
  have HW : Hid (width ≤ 12) := hw
  clear hb hbad e0 hn ep hp1 hw e2p
  go_enter Tryd.func20, Tryd.ntmps20
  go_wp2_with fail
  refine (isWidth_at _ (width : Int) true (by rw [eq_comm, decide_eq_true_eq]; have := HW.out; omega)).mono ?_
  rintro e w1 ⟨rfl, hw1⟩
  obtain rfl := hw1.symm
  go_wp2_with fail
  refine wp_region_noPanic (wp_region_held_drew (S := fun W => W = w.drew) (by kernel_rfl) rfl (fun hHeld => ?_))
  refine wpAnyH_take (i := 0) (oi := _) (v := ?vv0) rfl (by kernel_rfl) (by kernel_rfl) (by kernel_rfl) (fun _ _ _ h => h) (Or.inl ⟨by kernel_rfl, ?hy0⟩) (by assumption) ?_
  case hy0 => (intro w hSw; (try dsimp only at hSw); obtain rfl := hSw; go_simp; all_goals (with_reducible rfl))
  (try simp only [Act.put, List.setIfInBounds_toArray, List.set_cons_zero, List.set_cons_succ])
  refine wpAnyH_take (i := 1) (oi := _) (v := ?vv1) rfl (by kernel_rfl) (by kernel_rfl) (by kernel_rfl) (fun _ _ _ h => h) (Or.inl ⟨by kernel_rfl, ?hy1⟩) (by assumption) ?_
  case hy1 => (intro w hSw; (try dsimp only at hSw); obtain rfl := hSw; go_simp; all_goals (with_reducible rfl))
  (try simp only [Act.put, List.setIfInBounds_toArray, List.set_cons_zero, List.set_cons_succ])
  refine wpAnyH_take (i := 2) (oi := _) (v := ?vv2) rfl (by kernel_rfl) (by kernel_rfl) (by kernel_rfl) (fun _ _ _ h => h) (Or.inl ⟨by kernel_rfl, ?hy2⟩) (by assumption) ?_
  case hy2 => (intro w hSw; (try dsimp only at hSw); obtain rfl := hSw; go_simp; all_goals (with_reducible rfl))
  (try simp only [Act.put, List.setIfInBounds_toArray, List.set_cons_zero, List.set_cons_succ])
  refine wpAnyH_take (i := 3) (oi := _) (v := ?vv3) rfl (by kernel_rfl) (by kernel_rfl) (by kernel_rfl) (fun _ _ _ h => h) (Or.inl ⟨by kernel_rfl, ?hy3⟩) (by assumption) ?_
  case hy3 => (intro w hSw; (try dsimp only at hSw); obtain rfl := hSw; go_simp; all_goals (with_reducible rfl))
  (try simp only [Act.put, List.setIfInBounds_toArray, List.set_cons_zero, List.set_cons_succ])
  refine wpAnyH_take (i := 4) (oi := _) (v := ?vv4) rfl (by kernel_rfl) (by kernel_rfl) (by kernel_rfl) (fun _ _ _ h => h) (Or.inl ⟨by kernel_rfl, ?hy4⟩) (by assumption) ?_
  case hy4 => (intro w hSw; (try dsimp only at hSw); obtain rfl := hSw; go_simp; all_goals (with_reducible rfl))
  (try simp only [Act.put, List.setIfInBounds_toArray, List.set_cons_zero, List.set_cons_succ])
  refine wpAnyH_take (i := 5) (oi := _) (v := ?vv5) rfl (by kernel_rfl) (by kernel_rfl) (by kernel_rfl) (fun _ _ _ h => h) (Or.inl ⟨by kernel_rfl, ?hy5⟩) (by assumption) ?_
  case hy5 => (intro w hSw; (try dsimp only at hSw); obtain rfl := hSw; go_simp; all_goals (with_reducible rfl))
  (try simp only [Act.put, List.setIfInBounds_toArray, List.set_cons_zero, List.set_cons_succ])
  refine wpAnyH_ready (rs := [6]) (by kernel_rfl) (by simp) ?_
  refine AllReadyH.cons (o := _) rfl (fun K hK => ?_) AllReadyH.nil
  go_simp
  refine (contexts_at _ bc gc cc n H0.out HN.out).mono ?_
  rintro e w1 ⟨rfl, hw1⟩
  obtain rfl := hw1.symm
  go_simp
  refine hK.out _ _ rfl (fun hHeld => ?_)
  clear hK K
  (try simp only [Act.put, List.setIfInBounds_toArray, List.set_cons_zero, List.set_cons_succ])
  refine wpAnyH_ready (rs := [7]) (by kernel_rfl) (by simp) ?_
  refine AllReadyH.cons (o := _) rfl (fun K hK => ?_) AllReadyH.nil
  go_simp
  refine (hasContexts_at _ b (p : Int) n HB.out.1 (by have := HP.out; omega) (by have := HN.out; omega) false HB.out.2).mono ?_
  rintro e w1 ⟨rfl, hw1⟩
  obtain rfl := hw1.symm
  go_simp
  refine hK.out _ _ rfl (fun hHeld => ?_)
  clear hK K
  (try simp only [Act.put, List.setIfInBounds_toArray, List.set_cons_zero, List.set_cons_succ])
  refine wpAnyH_take (i := 8) (oi := _) (v := ?vv8) rfl (by kernel_rfl) (by kernel_rfl) (by kernel_rfl) (fun _ _ _ h => h) (Or.inl ⟨by kernel_rfl, ?hy8⟩) (by assumption) ?_
  case hy8 => (intro w hSw; (try dsimp only at hSw); obtain rfl := hSw; go_simp; all_goals (with_reducible rfl))
  (try simp only [Act.put, List.setIfInBounds_toArray, List.set_cons_zero, List.set_cons_succ])
  refine wpAnyH_take (i := 9) (oi := _) (v := ?vv9) rfl (by kernel_rfl) (by kernel_rfl) (by kernel_rfl) (fun _ _ _ h => h) (Or.inl ⟨by kernel_rfl, ?hy9⟩) (by assumption) ?_
  case hy9 => (intro w hSw; (try dsimp only at hSw); obtain rfl := hSw; go_simp; all_goals (with_reducible rfl))
  (try simp only [Act.put, List.setIfInBounds_toArray, List.set_cons_zero, List.set_cons_succ])
  refine wpAnyH_done (by kernel_rfl) ?_ _
  refine NoPanic.normal ?_
  simp only [List.getElem_toArray, List.getElem_cons_succ, List.getElem_cons_zero, List.setIfInBounds_toArray, List.set_cons_zero, List.set_cons_succ]
  go_wp2_with fail
  go_ret
  exact ⟨rfl, rfl⟩

set_option maxRecDepth 100000 in
set_option maxHeartbeats 2000000 in
set_option linter.unusedSimpArgs false in
theorem getID_base (w : World) (bc gc cc n width : Nat) (e0 : w.cell? ⟨bc, 0, none⟩ = some (.slice (some ⟨gc, 0, none⟩) n cc)) (hn : n ≤ 131072) (b : Int) (hw : width ≤ 12) (hb : -9223372036854775808 ≤ b ∧ b ≤ 9223372036854775807) (hbad : ¬ (0 ≤ b ∧ b ≤ (n : Int) - ((2 ^ width : Nat) : Int))) :
    Calls Tryd.prog 32 #[.pointer (some ⟨bc, 0, none⟩), .int .i64 b, .int .i64 (width : Int)] w fun e w' => e = .returned (.tuple #[.int .i64 0, .int .i64 51]) ∧ w' = w.drew := by
  have hp1 : 2 ^ width ≤ 2 ^ 12 := Nat.pow_le_pow_right (by decide) hw
  have mw : min width 64 = width := by omega
  obtain ⟨p, ep⟩ : ∃ p, 2 ^ width = p := ⟨_, rfl⟩
  rw [ep] at hp1
  have e2p : (2 ^ width : Int) = (p : Int) := by rw [← ep]; push_cast; rfl
  have kp : IntKind.i64.wrap (2 ^ width : Int) = (p : Int) := by rw [e2p, IntKind.wrap_i64]; omega
  have kp1 : IntKind.i64.wrap (1 * 2 ^ width : Int) = (p : Int) := by rw [Int.one_mul]; exact kp
  have HP : Hid (2 ^ width = p ∧ p ≤ 4096 ∧ 1 ≤ p) := ⟨ep, by omega, by rw [← ep]; exact Nat.two_pow_pos _⟩
  have H0 : Hid (w.drew.cell? ⟨bc, 0, none⟩ = some (.slice (some ⟨gc, 0, none⟩) n cc)) := e0
  have HN : Hid (n ≤ 131072) := hn
  rw [ep] at hbad
  have HB : Hid ((-9223372036854775808 ≤ b ∧ b ≤ 9223372036854775807) ∧ false = decide (0 ≤ b ∧ b ≤ (n : Int) - (p : Int))) := ⟨hb, by rw [eq_comm, decide_eq_false_iff_not]; exact hbad⟩
  have HW : Hid (width ≤ 12) := hw
  clear hb hbad e0 hn ep hp1 hw e2p
  go_enter Tryd.func32, Tryd.ntmps32
  go_wp2_with fail
  refine (isWidth_at _ (width : Int) true (by rw [eq_comm, decide_eq_true_eq]; have := HW.out; omega)).mono ?_
  rintro e w1 ⟨rfl, hw1⟩
  obtain rfl := hw1.symm
  go_wp2_with fail
  refine wp_region_noPanic (wp_region_held_drew (S := fun W => W = w.drew) (by kernel_rfl) rfl (fun hHeld => ?_))
  refine wpAnyH_take (i := 0) (oi := _) (v := ?vv0) rfl (by kernel_rfl) (by kernel_rfl) (by kernel_rfl) (fun _ _ _ h => h) (Or.inl ⟨by kernel_rfl, ?hy0⟩) (by assumption) ?_
  case hy0 => (intro w hSw; (try dsimp only at hSw); obtain rfl := hSw; go_simp; all_goals (with_reducible rfl))
  (try simp only [Act.put, List.setIfInBounds_toArray, List.set_cons_zero, List.set_cons_succ])
  refine wpAnyH_take (i := 1) (oi := _) (v := ?vv1) rfl (by kernel_rfl) (by kernel_rfl) (by kernel_rfl) (fun _ _ _ h => h) (Or.inl ⟨by kernel_rfl, ?hy1⟩) (by assumption) ?_
  case hy1 => (intro w hSw; (try dsimp only at hSw); obtain rfl := hSw; go_simp; all_goals (with_reducible rfl))
  (try simp only [Act.put, List.setIfInBounds_toArray, List.set_cons_zero, List.set_cons_succ])
  refine wpAnyH_take (i := 2) (oi := _) (v := ?vv2) rfl (by kernel_rfl) (by kernel_rfl) (by kernel_rfl) (fun _ _ _ h => h) (Or.inl ⟨by kernel_rfl, ?hy2⟩) (by assumption) ?_
  case hy2 => (intro w hSw; (try dsimp only at hSw); obtain rfl := hSw; go_simp; all_goals (with_reducible rfl))
  (try simp only [Act.put, List.setIfInBounds_toArray, List.set_cons_zero, List.set_cons_succ])
  refine wpAnyH_take (i := 3) (oi := _) (v := ?vv3) rfl (by kernel_rfl) (by kernel_rfl) (by kernel_rfl) (fun _ _ _ h => h) (Or.inl ⟨by kernel_rfl, ?hy3⟩) (by assumption) ?_
  case hy3 => (intro w hSw; (try dsimp only at hSw); obtain rfl := hSw; go_simp; all_goals (with_reducible rfl))
  (try simp only [Act.put, List.setIfInBounds_toArray, List.set_cons_zero, List.set_cons_succ])
  refine wpAnyH_take (i := 4) (oi := _) (v := ?vv4) rfl (by kernel_rfl) (by kernel_rfl) (by kernel_rfl) (fun _ _ _ h => h) (Or.inl ⟨by kernel_rfl, ?hy4⟩) (by assumption) ?_
  case hy4 => (intro w hSw; (try dsimp only at hSw); obtain rfl := hSw; go_simp; all_goals (with_reducible rfl))
  (try simp only [Act.put, List.setIfInBounds_toArray, List.set_cons_zero, List.set_cons_succ])
  refine wpAnyH_take (i := 5) (oi := _) (v := ?vv5) rfl (by kernel_rfl) (by kernel_rfl) (by kernel_rfl) (fun _ _ _ h => h) (Or.inl ⟨by kernel_rfl, ?hy5⟩) (by assumption) ?_
  case hy5 => (intro w hSw; (try dsimp only at hSw); obtain rfl := hSw; go_simp; all_goals (with_reducible rfl))
  (try simp only [Act.put, List.setIfInBounds_toArray, List.set_cons_zero, List.set_cons_succ])
  refine wpAnyH_ready (rs := [6]) (by kernel_rfl) (by simp) ?_
  refine AllReadyH.cons (o := _) rfl (fun K hK => ?_) AllReadyH.nil
  go_simp
  refine (contexts_at _ bc gc cc n H0.out HN.out).mono ?_
  rintro e w1 ⟨rfl, hw1⟩
  obtain rfl := hw1.symm
  go_simp
  refine hK.out _ _ rfl (fun hHeld => ?_)
  clear hK K
  (try simp only [Act.put, List.setIfInBounds_toArray, List.set_cons_zero, List.set_cons_succ])
  refine wpAnyH_ready (rs := [7]) (by kernel_rfl) (by simp) ?_
  refine AllReadyH.cons (o := _) rfl (fun K hK => ?_) AllReadyH.nil
  go_simp
  refine (hasContexts_at _ b (p : Int) n HB.out.1 (by have := HP.out; omega) (by have := HN.out; omega) false HB.out.2).mono ?_
  rintro e w1 ⟨rfl, hw1⟩
  obtain rfl := hw1.symm
  go_simp
  refine hK.out _ _ rfl (fun hHeld => ?_)
  clear hK K
  (try simp only [Act.put, List.setIfInBounds_toArray, List.set_cons_zero, List.set_cons_succ])
  refine wpAnyH_take (i := 8) (oi := _) (v := ?vv8) rfl (by kernel_rfl) (by kernel_rfl) (by kernel_rfl) (fun _ _ _ h => h) (Or.inl ⟨by kernel_rfl, ?hy8⟩) (by assumption) ?_
  case hy8 => (intro w hSw; (try dsimp only at hSw); obtain rfl := hSw; go_simp; all_goals (with_reducible rfl))
  (try simp only [Act.put, List.setIfInBounds_toArray, List.set_cons_zero, List.set_cons_succ])
  refine wpAnyH_take (i := 9) (oi := _) (v := ?vv9) rfl (by kernel_rfl) (by kernel_rfl) (by kernel_rfl) (fun _ _ _ h => h) (Or.inl ⟨by kernel_rfl, ?hy9⟩) (by assumption) ?_
  case hy9 => (intro w hSw; (try dsimp only at hSw); obtain rfl := hSw; go_simp; all_goals (with_reducible rfl))
  (try simp only [Act.put, List.setIfInBounds_toArray, List.set_cons_zero, List.set_cons_succ])
  refine wpAnyH_done (by kernel_rfl) ?_ _
  refine NoPanic.normal ?_
  simp only [List.getElem_toArray, List.getElem_cons_succ, List.getElem_cons_zero, List.setIfInBounds_toArray, List.set_cons_zero, List.set_cons_succ]
  go_wp2_with fail
  go_ret2
  exact ⟨rfl, rfl⟩

set_option maxRecDepth 100000 in
set_option maxHeartbeats 2000000 in
set_option linter.unusedSimpArgs false in
theorem putID_range (w : World) (bc gc cc n width : Nat) (e0 : w.cell? ⟨bc, 0, none⟩ = some (.slice (some ⟨gc, 0, none⟩) n cc)) (hn : n ≤ 131072) (b i : Int) (hw : width ≤ 12) (hb : 0 ≤ b ∧ b ≤ (n : Int) - ((2 ^ width : Nat) : Int)) (hbad : i < 0 ∨ ((2 ^ width : Nat) : Int) ≤ i) :
    Calls Tryd.prog 20 #[.pointer (some ⟨bc, 0, none⟩), .int .i64 b, .int .i64 (width : Int), .int .i64 i] w fun e w' => e = .returned (.int .i64 50) ∧ w' = w.drew := by
  have hp1 : 2 ^ width ≤ 2 ^ 12 := Nat.pow_le_pow_right (by decide) hw
  have mw : min width 64 = width := by omega
  obtain ⟨p, ep⟩ : ∃ p, 2 ^ width = p := ⟨_, rfl⟩
  rw [ep] at hp1
  have e2p : (2 ^ width : Int) = (p : Int) := by rw [← ep]; push_cast; rfl
  have kp : IntKind.i64.wrap (2 ^ width : Int) = (p : Int) := by rw [e2p, IntKind.wrap_i64]; omega
  have kp1 : IntKind.i64.wrap (1 * 2 ^ width : Int) = (p : Int) := by rw [Int.one_mul]; exact kp
  have HP : Hid (2 ^ width = p ∧ p ≤ 4096 ∧ 1 ≤ p) := ⟨ep, by omega, by rw [← ep]; exact Nat.two_pow_pos _⟩
  have H0 : Hid (w.drew.cell? ⟨bc, 0, none⟩ = some (.slice (some ⟨gc, 0, none⟩) n cc)) := e0
  have HN : Hid (n ≤ 131072) := hn
  rw [ep] at hbad hb
  have HB : Hid ((-9223372036854775808 ≤ b ∧ b ≤ 9223372036854775807) ∧ true = decide (0 ≤ b ∧ b ≤ (n : Int) - (p : Int))) := ⟨by omega, by rw [eq_comm, decide_eq_true_eq]; exact hb⟩
  have HW : Hid (width ≤ 12) := hw
  have HI : Hid (i < 0 ∨ (p : Int) ≤ i) := hbad
  clear hb hbad e0 hn ep hp1 hw e2p
  go_enter Tryd.func20, Tryd.ntmps20
  go_wp2_with fail
  refine (isWidth_at _ (width : Int) true (by rw [eq_comm, decide_eq_true_eq]; have := HW.out; omega)).mono ?_
  rintro e w1 ⟨rfl, hw1⟩
  obtain rfl := hw1.symm
  go_wp2_with fail
  refine wp_region_noPanic (wp_region_held_drew (S := fun W => W = w.drew) (by kernel_rfl) rfl (fun hHeld => ?_))
  refine wpAnyH_take (i := 0) (oi := _) (v := ?vv0) rfl (by kernel_rfl) (by kernel_rfl) (by kernel_rfl) (fun _ _ _ h => h) (Or.inl ⟨by kernel_rfl, ?hy0⟩) (by assumption) ?_
  case hy0 => (intro w hSw; (try dsimp only at hSw); obtain rfl := hSw; go_simp; all_goals (with_reducible rfl))
  (try simp only [Act.put, List.setIfInBounds_toArray, List.set_cons_zero, List.set_cons_succ])
  refine wpAnyH_take (i := 1) (oi := _) (v := ?vv1) rfl (by kernel_rfl) (by kernel_rfl) (by kernel_rfl) (fun _ _ _ h => h) (Or.inl ⟨by kernel_rfl, ?hy1⟩) (by assumption) ?_
  case hy1 => (intro w hSw; (try dsimp only at hSw); obtain rfl := hSw; go_simp; all_goals (with_reducible rfl))
  (try simp only [Act.put, List.setIfInBounds_toArray, List.set_cons_zero, List.set_cons_succ])
  refine wpAnyH_take (i := 2) (oi := _) (v := ?vv2) rfl (by kernel_rfl) (by kernel_rfl) (by kernel_rfl) (fun _ _ _ h => h) (Or.inl ⟨by kernel_rfl, ?hy2⟩) (by assumption) ?_
  case hy2 => (intro w hSw; (try dsimp only at hSw); obtain rfl := hSw; go_simp; all_goals (with_reducible rfl))
  (try simp only [Act.put, List.setIfInBounds_toArray, List.set_cons_zero, List.set_cons_succ])
  refine wpAnyH_take (i := 3) (oi := _) (v := ?vv3) rfl (by kernel_rfl) (by kernel_rfl) (by kernel_rfl) (fun _ _ _ h => h) (Or.inl ⟨by kernel_rfl, ?hy3⟩) (by assumption) ?_
  case hy3 => (intro w hSw; (try dsimp only at hSw); obtain rfl := hSw; go_simp; all_goals (with_reducible rfl))
  (try simp only [Act.put, List.setIfInBounds_toArray, List.set_cons_zero, List.set_cons_succ])
  refine wpAnyH_take (i := 4) (oi := _) (v := ?vv4) rfl (by kernel_rfl) (by kernel_rfl) (by kernel_rfl) (fun _ _ _ h => h) (Or.inl ⟨by kernel_rfl, ?hy4⟩) (by assumption) ?_
  case hy4 => (intro w hSw; (try dsimp only at hSw); obtain rfl := hSw; go_simp; all_goals (with_reducible rfl))
  (try simp only [Act.put, List.setIfInBounds_toArray, List.set_cons_zero, List.set_cons_succ])
  refine wpAnyH_take (i := 5) (oi := _) (v := ?vv5) rfl (by kernel_rfl) (by kernel_rfl) (by kernel_rfl) (fun _ _ _ h => h) (Or.inl ⟨by kernel_rfl, ?hy5⟩) (by assumption) ?_
  case hy5 => (intro w hSw; (try dsimp only at hSw); obtain rfl := hSw; go_simp; all_goals (with_reducible rfl))
  (try simp only [Act.put, List.setIfInBounds_toArray, List.set_cons_zero, List.set_cons_succ])
  refine wpAnyH_ready (rs := [6]) (by kernel_rfl) (by simp) ?_
  refine AllReadyH.cons (o := _) rfl (fun K hK => ?_) AllReadyH.nil
  go_simp
  refine (contexts_at _ bc gc cc n H0.out HN.out).mono ?_
  rintro e w1 ⟨rfl, hw1⟩
  obtain rfl := hw1.symm
  go_simp
  refine hK.out _ _ rfl (fun hHeld => ?_)
  clear hK K
  (try simp only [Act.put, List.setIfInBounds_toArray, List.set_cons_zero, List.set_cons_succ])
  refine wpAnyH_ready (rs := [7]) (by kernel_rfl) (by simp) ?_
  refine AllReadyH.cons (o := _) rfl (fun K hK => ?_) AllReadyH.nil
  go_simp
  refine (hasContexts_at _ b (p : Int) n HB.out.1 (by have := HP.out; omega) (by have := HN.out; omega) true HB.out.2).mono ?_
  rintro e w1 ⟨rfl, hw1⟩
  obtain rfl := hw1.symm
  go_simp
  refine hK.out _ _ rfl (fun hHeld => ?_)
  clear hK K
  (try simp only [Act.put, List.setIfInBounds_toArray, List.set_cons_zero, List.set_cons_succ])
  refine wpAnyH_take (i := 8) (oi := _) (v := ?vv8) rfl (by kernel_rfl) (by kernel_rfl) (by kernel_rfl) (fun _ _ _ h => h) (Or.inl ⟨by kernel_rfl, ?hy8⟩) (by assumption) ?_
  case hy8 => (intro w hSw; (try dsimp only at hSw); obtain rfl := hSw; go_simp; all_goals (with_reducible rfl))
  (try simp only [Act.put, List.setIfInBounds_toArray, List.set_cons_zero, List.set_cons_succ])
  refine wpAnyH_take (i := 9) (oi := _) (v := ?vv9) rfl (by kernel_rfl) (by kernel_rfl) (by kernel_rfl) (fun _ _ _ h => h) (Or.inl ⟨by kernel_rfl, ?hy9⟩) (by assumption) ?_
  case hy9 => (intro w hSw; (try dsimp only at hSw); obtain rfl := hSw; go_simp; all_goals (with_reducible rfl))
  (try simp only [Act.put, List.setIfInBounds_toArray, List.set_cons_zero, List.set_cons_succ])
  refine wpAnyH_done (by kernel_rfl) ?_ _
  refine NoPanic.normal ?_
  simp only [List.getElem_toArray, List.getElem_cons_succ, List.getElem_cons_zero, List.setIfInBounds_toArray, List.set_cons_zero, List.set_cons_succ]
  by_cases hi0 : i < 0
  · have hd1 : decide (i < 0) = true := decide_eq_true hi0
    go_wp2_with fail
    go_ret
    exact ⟨rfl, rfl⟩
  · have hd1 : decide (i < 0) = false := decide_eq_false hi0
    have hd2 : decide ((p : Int) ≤ i) = true := decide_eq_true (by rcases HI.out with e | e; exact absurd e hi0; exact e)
    go_wp2_with fail
    go_ret
    exact ⟨rfl, rfl⟩

set_option maxRecDepth 100000 in
set_option maxHeartbeats 2000000 in
set_option linter.unusedSimpArgs false in
theorem putID_ok (w : World) (bc gc cc gb cb base width id : Nat) (o : Co) (h : CoAt w bc gc cc gb cb o) (hok : Ook o) (hm : o.made + 12 ≤ 16777216) (hw : width ≤ 12) (hb : base + 2 ^ width ≤ o.x.length) (hid : id < 2 ^ width) :
    Calls Tryd.prog 20 #[.pointer (some ⟨bc, 0, none⟩), .int .i64 (base : Int), .int .i64 (width : Int), .int .i64 (id : Int)] w fun e w' => e = .returned (.int .i64 0) ∧ ∃ gb' cb', CoAt w' bc gc cc gb' cb' (runL o (decs base (2 ^ width) 1 (hiBits id width))) ∧ CStep bc gc gb gb' w w' := by
  have hp1 : 2 ^ width ≤ 2 ^ 12 := Nat.pow_le_pow_right (by decide) hw
  have mw : min width 64 = width := by omega
  obtain ⟨p, ep⟩ : ∃ p, 2 ^ width = p := ⟨_, rfl⟩
  rw [ep] at hp1
  have e2p : (2 ^ width : Int) = (p : Int) := by rw [← ep]; push_cast; rfl
  have kp : IntKind.i64.wrap (2 ^ width : Int) = (p : Int) := by rw [e2p, IntKind.wrap_i64]; omega
  have kp1 : IntKind.i64.wrap (1 * 2 ^ width : Int) = (p : Int) := by rw [Int.one_mul]; exact kp
  have HP : Hid (2 ^ width = p ∧ p ≤ 4096 ∧ 1 ≤ p) := ⟨ep, by omega, by rw [← ep]; exact Nat.two_pow_pos _⟩
  have hlim := hok.lim
  obtain ⟨n, en⟩ : ∃ n, o.x.length = n := ⟨_, rfl⟩
  obtain ⟨b, eb⟩ : ∃ b : Int, (base : Int) = b := ⟨_, rfl⟩
  have H0 : Hid (w.drew.cell? ⟨bc, 0, none⟩ = some (.slice (some ⟨gc, 0, none⟩) n cc)) := by rw [← en]; exact (cell_of_seven h.blk).1
  have HN : Hid (n ≤ 131072) := by rw [← en]; exact hlim
  rw [ep, en] at hb
  rw [ep] at hid
  have HB : Hid ((-9223372036854775808 ≤ b ∧ b ≤ 9223372036854775807) ∧ true = decide (0 ≤ b ∧ b ≤ (n : Int) - (p : Int))) := ⟨by omega, by rw [eq_comm, decide_eq_true_eq]; omega⟩
  have HW : Hid (width ≤ 12) := hw
  have hd1 : decide ((id : Int) < 0) = false := decide_eq_false (by omega)
  have hd2 : decide (p ≤ id) = false := decide_eq_false (by omega)
  have k9 : IntKind.u64.wrap (id : Int) = (id : Int) := by rw [IntKind.wrap_u64]; omega
  have HE : Hid ((base : Int) = b ∧ base ≤ 131072 ∧ id < p) := ⟨eb, by omega, hid⟩
  have HC : Hid (CoAt w bc gc cc gb cb o ∧ Ook o ∧ o.made + 12 ≤ 16777216) := ⟨h, hok, hm⟩
  rw [eb]
  clear hb hlim en eb hid hp1 hw h hok hm e2p
  rw [ep]
  clear ep
  go_enter Tryd.func20, Tryd.ntmps20
  go_wp2_with fail
  refine (isWidth_at _ (width : Int) true (by rw [eq_comm, decide_eq_true_eq]; have := HW.out; omega)).mono ?_
  rintro e w1 ⟨rfl, hw1⟩
  obtain rfl := hw1.symm
  go_wp2_with fail
  refine wp_region_noPanic (wp_region_held_drew (S := fun W => W = w.drew) (by kernel_rfl) rfl (fun hHeld => ?_))
  refine wpAnyH_take (i := 0) (oi := _) (v := ?vv0) rfl (by kernel_rfl) (by kernel_rfl) (by kernel_rfl) (fun _ _ _ h => h) (Or.inl ⟨by kernel_rfl, ?hy0⟩) (by assumption) ?_
  case hy0 => (intro w hSw; (try dsimp only at hSw); obtain rfl := hSw; go_simp; all_goals (with_reducible rfl))
  (try simp only [Act.put, List.setIfInBounds_toArray, List.set_cons_zero, List.set_cons_succ])
  refine wpAnyH_take (i := 1) (oi := _) (v := ?vv1) rfl (by kernel_rfl) (by kernel_rfl) (by kernel_rfl) (fun _ _ _ h => h) (Or.inl ⟨by kernel_rfl, ?hy1⟩) (by assumption) ?_
  case hy1 => (intro w hSw; (try dsimp only at hSw); obtain rfl := hSw; go_simp; all_goals (with_reducible rfl))
  (try simp only [Act.put, List.setIfInBounds_toArray, List.set_cons_zero, List.set_cons_succ])
  refine wpAnyH_take (i := 2) (oi := _) (v := ?vv2) rfl (by kernel_rfl) (by kernel_rfl) (by kernel_rfl) (fun _ _ _ h => h) (Or.inl ⟨by kernel_rfl, ?hy2⟩) (by assumption) ?_
  case hy2 => (intro w hSw; (try dsimp only at hSw); obtain rfl := hSw; go_simp; all_goals (with_reducible rfl))
  (try simp only [Act.put, List.setIfInBounds_toArray, List.set_cons_zero, List.set_cons_succ])
  refine wpAnyH_take (i := 3) (oi := _) (v := ?vv3) rfl (by kernel_rfl) (by kernel_rfl) (by kernel_rfl) (fun _ _ _ h => h) (Or.inl ⟨by kernel_rfl, ?hy3⟩) (by assumption) ?_
  case hy3 => (intro w hSw; (try dsimp only at hSw); obtain rfl := hSw; go_simp; all_goals (with_reducible rfl))
  (try simp only [Act.put, List.setIfInBounds_toArray, List.set_cons_zero, List.set_cons_succ])
  refine wpAnyH_take (i := 4) (oi := _) (v := ?vv4) rfl (by kernel_rfl) (by kernel_rfl) (by kernel_rfl) (fun _ _ _ h => h) (Or.inl ⟨by kernel_rfl, ?hy4⟩) (by assumption) ?_
  case hy4 => (intro w hSw; (try dsimp only at hSw); obtain rfl := hSw; go_simp; all_goals (with_reducible rfl))
  (try simp only [Act.put, List.setIfInBounds_toArray, List.set_cons_zero, List.set_cons_succ])
  refine wpAnyH_take (i := 5) (oi := _) (v := ?vv5) rfl (by kernel_rfl) (by kernel_rfl) (by kernel_rfl) (fun _ _ _ h => h) (Or.inl ⟨by kernel_rfl, ?hy5⟩) (by assumption) ?_
  case hy5 => (intro w hSw; (try dsimp only at hSw); obtain rfl := hSw; go_simp; all_goals (with_reducible rfl))
  (try simp only [Act.put, List.setIfInBounds_toArray, List.set_cons_zero, List.set_cons_succ])
  refine wpAnyH_ready (rs := [6]) (by kernel_rfl) (by simp) ?_
  refine AllReadyH.cons (o := _) rfl (fun K hK => ?_) AllReadyH.nil
  go_simp
  refine (contexts_at _ bc gc cc n H0.out HN.out).mono ?_
  rintro e w1 ⟨rfl, hw1⟩
  obtain rfl := hw1.symm
  go_simp
  refine hK.out _ _ rfl (fun hHeld => ?_)
  clear hK K
  (try simp only [Act.put, List.setIfInBounds_toArray, List.set_cons_zero, List.set_cons_succ])
  refine wpAnyH_ready (rs := [7]) (by kernel_rfl) (by simp) ?_
  refine AllReadyH.cons (o := _) rfl (fun K hK => ?_) AllReadyH.nil
  go_simp
  refine (hasContexts_at _ b (p : Int) n HB.out.1 (by have := HP.out; omega) (by have := HN.out; omega) true HB.out.2).mono ?_
  rintro e w1 ⟨rfl, hw1⟩
  obtain rfl := hw1.symm
  go_simp
  refine hK.out _ _ rfl (fun hHeld => ?_)
  clear hK K
  (try simp only [Act.put, List.setIfInBounds_toArray, List.set_cons_zero, List.set_cons_succ])
  refine wpAnyH_take (i := 8) (oi := _) (v := ?vv8) rfl (by kernel_rfl) (by kernel_rfl) (by kernel_rfl) (fun _ _ _ h => h) (Or.inl ⟨by kernel_rfl, ?hy8⟩) (by assumption) ?_
  case hy8 => (intro w hSw; (try dsimp only at hSw); obtain rfl := hSw; go_simp; all_goals (with_reducible rfl))
  (try simp only [Act.put, List.setIfInBounds_toArray, List.set_cons_zero, List.set_cons_succ])
  refine wpAnyH_take (i := 9) (oi := _) (v := ?vv9) rfl (by kernel_rfl) (by kernel_rfl) (by kernel_rfl) (fun _ _ _ h => h) (Or.inl ⟨by kernel_rfl, ?hy9⟩) (by assumption) ?_
  case hy9 => (intro w hSw; (try dsimp only at hSw); obtain rfl := hSw; go_simp; all_goals (with_reducible rfl))
  (try simp only [Act.put, List.setIfInBounds_toArray, List.set_cons_zero, List.set_cons_succ])
  refine wpAnyH_done (by kernel_rfl) ?_ _
  refine NoPanic.normal ?_
  simp only [List.getElem_toArray, List.getElem_cons_succ, List.getElem_cons_zero, List.setIfInBounds_toArray, List.set_cons_zero, List.set_cons_succ]
  go_wp2_with fail
  refine (startAt_at _ base p _ _ HE.out.1.symm rfl).mono ?_
  rintro e w1 ⟨bk, rfl, hwk, f1, l1⟩
  have HWk : Hid (WkAt w1 bk base p 1) := hwk
  have F1 : Hid (Fr (fun _ => False) w w1) := Fr.trans (Fr.drew (Fr.refl _ _)) f1 (fun _ _ h => h)
  have L1 : Hid (w.heap.size ≤ bk) := l1
  clear hwk f1 l1
  go_wp2_with fail
  refine (highestFirst_at _ id width _ rfl).mono ?_
  rintro e w2 ⟨b1, b2, rfl, c1, c2, f2, l2, l3⟩
  have HWk2 : Hid (WkAt w2 bk base p 1) := HWk.out.kept f2 (fun h => h)
  have F2 : Hid (Fr (fun _ => False) w w2) := Fr.trans F1.out f2 (fun _ _ h => h)
  have L2 : Hid (w.heap.size ≤ b1 ∧ w.heap.size ≤ b2 ∧ b1 ≠ bk ∧ b2 ≠ bk) := by
    have := HWk.out.lt
    have := F1.out.size
    exact ⟨by omega, by omega, by omega, by omega⟩
  have C1 : Hid (w2.cell? ⟨b1, 0, none⟩ = some (.int .i64 (width : Int))) := c1
  have C2 : Hid (w2.cell? ⟨b2, 0, none⟩ = some (.int .u64 (id : Int))) := c2
  clear c1 c2 f2 l2 l3
  go_wp2_with fail
  obtain ⟨hco, hok, hm⟩ := HC.out
  obtain ⟨g1, g2, g3⟩ := HE.out
  obtain ⟨m1, m2, m3⟩ := HP.out
  obtain ⟨n1, n2, n3, n4⟩ := L2.out
  have hw12 := HW.out
  have lk := L1.out
  have lc := hco.lt
  have lx := hco.xlt
  have lb := hco.blt
  have hsz : width = 0 ∨ (2 ≤ p ∧ p ≤ 4096 ∧ p % 2 = 0) := by
    rcases Nat.eq_zero_or_pos width with e | e
    · exact .inl e
    · obtain ⟨j, rfl⟩ : ∃ j, width = j + 1 := ⟨width - 1, by omega⟩
      rw [Nat.pow_succ] at m1
      exact .inr (by omega)
  refine (wput_any w2 bk base p bc gc cc gb cb b1 b2 id width o (hco.kept F2.out (fun h => h) (fun h => h) (fun h => h)) hok HWk2.out (by omega) hsz g2 (by omega) (by omega) C1.out C2.out (by unfold WS; omega) (by unfold WS; omega) (by omega)).mono ?_
  rintro e w3 ⟨rfl, gb', cb', q1, q2, q3⟩
  have hst : CStep bc gc gb gb' w w3 := ⟨Fr.trans (S := fun k => k = bc ∨ k = gc ∨ k = gb) (F2.out.mono (fun _ _ h => h.elim)) q2 (fun k hk h => by unfold WS at h; omega), by have := F2.out.size; omega⟩
  have HQ : Hid (CoAt w3 bc gc cc gb' cb' (runL o (decs base p 1 (hiBits id width))) ∧ CStep bc gc gb gb' w w3) := ⟨q1, hst⟩
  clear hco hok hm g1 g2 g3 m1 m2 m3 n1 n2 n3 n4 hw12 lk lc lx lb hsz q1 q2 q3 hst
  go_wp2_with fail
  go_ret
  exact ⟨rfl, gb', cb', HQ.out.1, HQ.out.2⟩

set_option maxRecDepth 100000 in
set_option maxHeartbeats 2000000 in
set_option linter.unusedSimpArgs false in
theorem getID_ok (w : World) (bc gc cc base width : Nat) (vb : Value) (B : List Nat) (o : De) (h : DeAt w bc gc cc vb B o) (hok : Eok B o) (hm : o.made + 12 ≤ 16777216) (hw : width ≤ 12) (hb : base + 2 ^ width ≤ o.x.length) :
    Calls Tryd.prog 32 #[.pointer (some ⟨bc, 0, none⟩), .int .i64 (base : Int), .int .i64 (width : Int)] w fun e w' => e = .returned (.tuple #[.int .i64 ((takeD B base (2 ^ width) width (o, 1) 0).1 : Int), .int .i64 0]) ∧ DeAt w' bc gc cc vb B (takeD B base (2 ^ width) width (o, 1) 0).2.1 ∧ DStep bc gc w w' := by
  have hp1 : 2 ^ width ≤ 2 ^ 12 := Nat.pow_le_pow_right (by decide) hw
  have mw : min width 64 = width := by omega
  obtain ⟨p, ep⟩ : ∃ p, 2 ^ width = p := ⟨_, rfl⟩
  rw [ep] at hp1
  have e2p : (2 ^ width : Int) = (p : Int) := by rw [← ep]; push_cast; rfl
  have kp : IntKind.i64.wrap (2 ^ width : Int) = (p : Int) := by rw [e2p, IntKind.wrap_i64]; omega
  have kp1 : IntKind.i64.wrap (1 * 2 ^ width : Int) = (p : Int) := by rw [Int.one_mul]; exact kp
  have HP : Hid (2 ^ width = p ∧ p ≤ 4096 ∧ 1 ≤ p) := ⟨ep, by omega, by rw [← ep]; exact Nat.two_pow_pos _⟩
  have hlim := hok.lim
  obtain ⟨n, en⟩ : ∃ n, o.x.length = n := ⟨_, rfl⟩
  obtain ⟨b, eb⟩ : ∃ b : Int, (base : Int) = b := ⟨_, rfl⟩
  have H0 : Hid (w.drew.cell? ⟨bc, 0, none⟩ = some (.slice (some ⟨gc, 0, none⟩) n cc)) := by rw [← en]; exact (cell_of_seven h.blk).1
  have HN : Hid (n ≤ 131072) := by rw [← en]; exact hlim
  rw [ep, en] at hb
  have HB : Hid ((-9223372036854775808 ≤ b ∧ b ≤ 9223372036854775807) ∧ true = decide (0 ≤ b ∧ b ≤ (n : Int) - (p : Int))) := ⟨by omega, by rw [eq_comm, decide_eq_true_eq]; omega⟩
  have HW : Hid (width ≤ 12) := hw
  have HE : Hid ((base : Int) = b ∧ base ≤ 131072) := ⟨eb, by omega⟩
  have HC : Hid (DeAt w bc gc cc vb B o ∧ Eok B o ∧ o.made + 12 ≤ 16777216) := ⟨h, hok, hm⟩
  have hx := takeD_lt (B := B) base p o 1 width
  have p12 : 2 ^ width ≤ 4096 := by rw [ep]; omega
  rw [eb, ep]
  obtain ⟨x, ex⟩ : ∃ x, (takeD B base p width (o, 1) 0).1 = x := ⟨_, rfl⟩
  rw [ex] at hx
  have k9 : IntKind.i64.wrap (x : Int) = (x : Int) := by rw [IntKind.wrap_i64]; omega
  have HX : Hid ((takeD B base p width (o, 1) 0).1 = x) := ex
  clear hb hlim en eb hp1 hw h hok hm ep hx p12 ex e2p
  go_enter Tryd.func32, Tryd.ntmps32
  go_wp2_with fail
  refine (isWidth_at _ (width : Int) true (by rw [eq_comm, decide_eq_true_eq]; have := HW.out; omega)).mono ?_
  rintro e w1 ⟨rfl, hw1⟩
  obtain rfl := hw1.symm
  go_wp2_with fail
  refine wp_region_noPanic (wp_region_held_drew (S := fun W => W = w.drew) (by kernel_rfl) rfl (fun hHeld => ?_))
  refine wpAnyH_take (i := 0) (oi := _) (v := ?vv0) rfl (by kernel_rfl) (by kernel_rfl) (by kernel_rfl) (fun _ _ _ h => h) (Or.inl ⟨by kernel_rfl, ?hy0⟩) (by assumption) ?_
  case hy0 => (intro w hSw; (try dsimp only at hSw); obtain rfl := hSw; go_simp; all_goals (with_reducible rfl))
  (try simp only [Act.put, List.setIfInBounds_toArray, List.set_cons_zero, List.set_cons_succ])
  refine wpAnyH_take (i := 1) (oi := _) (v := ?vv1) rfl (by kernel_rfl) (by kernel_rfl) (by kernel_rfl) (fun _ _ _ h => h) (Or.inl ⟨by kernel_rfl, ?hy1⟩) (by assumption) ?_
  case hy1 => (intro w hSw; (try dsimp only at hSw); obtain rfl := hSw; go_simp; all_goals (with_reducible rfl))
  (try simp only [Act.put, List.setIfInBounds_toArray, List.set_cons_zero, List.set_cons_succ])
  refine wpAnyH_take (i := 2) (oi := _) (v := ?vv2) rfl (by kernel_rfl) (by kernel_rfl) (by kernel_rfl) (fun _ _ _ h => h) (Or.inl ⟨by kernel_rfl, ?hy2⟩) (by assumption) ?_
  case hy2 => (intro w hSw; (try dsimp only at hSw); obtain rfl := hSw; go_simp; all_goals (with_reducible rfl))
  (try simp only [Act.put, List.setIfInBounds_toArray, List.set_cons_zero, List.set_cons_succ])
  refine wpAnyH_take (i := 3) (oi := _) (v := ?vv3) rfl (by kernel_rfl) (by kernel_rfl) (by kernel_rfl) (fun _ _ _ h => h) (Or.inl ⟨by kernel_rfl, ?hy3⟩) (by assumption) ?_
  case hy3 => (intro w hSw; (try dsimp only at hSw); obtain rfl := hSw; go_simp; all_goals (with_reducible rfl))
  (try simp only [Act.put, List.setIfInBounds_toArray, List.set_cons_zero, List.set_cons_succ])
  refine wpAnyH_take (i := 4) (oi := _) (v := ?vv4) rfl (by kernel_rfl) (by kernel_rfl) (by kernel_rfl) (fun _ _ _ h => h) (Or.inl ⟨by kernel_rfl, ?hy4⟩) (by assumption) ?_
  case hy4 => (intro w hSw; (try dsimp only at hSw); obtain rfl := hSw; go_simp; all_goals (with_reducible rfl))
  (try simp only [Act.put, List.setIfInBounds_toArray, List.set_cons_zero, List.set_cons_succ])
  refine wpAnyH_take (i := 5) (oi := _) (v := ?vv5) rfl (by kernel_rfl) (by kernel_rfl) (by kernel_rfl) (fun _ _ _ h => h) (Or.inl ⟨by kernel_rfl, ?hy5⟩) (by assumption) ?_
  case hy5 => (intro w hSw; (try dsimp only at hSw); obtain rfl := hSw; go_simp; all_goals (with_reducible rfl))
  (try simp only [Act.put, List.setIfInBounds_toArray, List.set_cons_zero, List.set_cons_succ])
  refine wpAnyH_ready (rs := [6]) (by kernel_rfl) (by simp) ?_
  refine AllReadyH.cons (o := _) rfl (fun K hK => ?_) AllReadyH.nil
  go_simp
  refine (contexts_at _ bc gc cc n H0.out HN.out).mono ?_
  rintro e w1 ⟨rfl, hw1⟩
  obtain rfl := hw1.symm
  go_simp
  refine hK.out _ _ rfl (fun hHeld => ?_)
  clear hK K
  (try simp only [Act.put, List.setIfInBounds_toArray, List.set_cons_zero, List.set_cons_succ])
  refine wpAnyH_ready (rs := [7]) (by kernel_rfl) (by simp) ?_
  refine AllReadyH.cons (o := _) rfl (fun K hK => ?_) AllReadyH.nil
  go_simp
  refine (hasContexts_at _ b (p : Int) n HB.out.1 (by have := HP.out; omega) (by have := HN.out; omega) true HB.out.2).mono ?_
  rintro e w1 ⟨rfl, hw1⟩
  obtain rfl := hw1.symm
  go_simp
  refine hK.out _ _ rfl (fun hHeld => ?_)
  clear hK K
  (try simp only [Act.put, List.setIfInBounds_toArray, List.set_cons_zero, List.set_cons_succ])
  refine wpAnyH_take (i := 8) (oi := _) (v := ?vv8) rfl (by kernel_rfl) (by kernel_rfl) (by kernel_rfl) (fun _ _ _ h => h) (Or.inl ⟨by kernel_rfl, ?hy8⟩) (by assumption) ?_
  case hy8 => (intro w hSw; (try dsimp only at hSw); obtain rfl := hSw; go_simp; all_goals (with_reducible rfl))
  (try simp only [Act.put, List.setIfInBounds_toArray, List.set_cons_zero, List.set_cons_succ])
  refine wpAnyH_take (i := 9) (oi := _) (v := ?vv9) rfl (by kernel_rfl) (by kernel_rfl) (by kernel_rfl) (fun _ _ _ h => h) (Or.inl ⟨by kernel_rfl, ?hy9⟩) (by assumption) ?_
  case hy9 => (intro w hSw; (try dsimp only at hSw); obtain rfl := hSw; go_simp; all_goals (with_reducible rfl))
  (try simp only [Act.put, List.setIfInBounds_toArray, List.set_cons_zero, List.set_cons_succ])
  refine wpAnyH_done (by kernel_rfl) ?_ _
  refine NoPanic.normal ?_
  simp only [List.getElem_toArray, List.getElem_cons_succ, List.getElem_cons_zero, List.setIfInBounds_toArray, List.set_cons_zero, List.set_cons_succ]
  go_wp2_with fail
  refine (startAt_at _ base p _ _ HE.out.1.symm rfl).mono ?_
  rintro e w1 ⟨bk, rfl, hwk, f1, l1⟩
  have HWk : Hid (WkAt w1 bk base p 1) := hwk
  have F1 : Hid (Fr (fun _ => False) w w1) := Fr.trans (Fr.drew (Fr.refl _ _)) f1 (fun _ _ h => h)
  have L1 : Hid (w.heap.size ≤ bk) := l1
  clear hwk f1 l1
  go_wp2_with fail
  obtain ⟨hde, hok, hm⟩ := HC.out
  obtain ⟨m1, m2, m3⟩ := HP.out
  have hw12 := HW.out
  have lk := L1.out
  have hlt := hde.lt
  have hxl := hde.xlt
  have hvl : ∀ k, vb.ownBlock = some k → k < w.heap.size := fun k e => (hde.bs.lt k e).2
  have hsz : (width = 0 ∨ (2 ≤ p ∧ p ≤ 4096 ∧ p % 2 = 0)) ∧ (width = 0 ∨ 1 < p) := by
    rcases Nat.eq_zero_or_pos width with e | e
    · exact ⟨.inl e, .inl e⟩
    · obtain ⟨j, rfl⟩ : ∃ j, width = j + 1 := ⟨width - 1, by omega⟩
      have hj := Nat.two_pow_pos j
      rw [Nat.pow_succ] at m1
      exact ⟨.inr (by omega), .inr (by omega)⟩
  refine (take_any w1 bk base p 1 bc gc cc vb B o HWk.out (hde.keptAll F1.out) hok width (by omega) (by omega) hsz.1 ⟨by omega, hsz.2⟩ HE.out.2 ⟨by omega, by omega, fun e => by have := hvl _ e; omega⟩ _ rfl).mono ?_
  rintro e w2 ⟨rfl, q1, q2, q3⟩
  rw [HX.out]
  have HQ : Hid (DeAt w2 bc gc cc vb B (takeD B base p width (o, 1) 0).2.1 ∧ DStep bc gc w w2) := ⟨q1, Fr.trans (F1.out.mono (fun _ _ h => h.elim)) q3 (fun k hk h => by omega)⟩
  clear hde hok hm m1 m2 m3 hw12 lk hlt hxl hvl hsz q1 q2 q3
  go_wp2_with fail
  go_ret2
  rw [HX.out]
  exact ⟨rfl, HQ.out.1, HQ.out.2⟩

end Go.Proofs.YtllhekkclhcdbaaDoor
