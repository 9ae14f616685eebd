/- Package generic: what Put and Get refuse; a coder that was flushed. -/
import Derived.Test.YtkggdnkmaldmlabKBg
import Derived.Test.YtkggdnkmaldmlabKPu
namespace Go.Proofs.Ytkggdnkmaldmlab
open Go.RowKit

theorem leaves_tmps {P : Program} {fn : Func} {t1 t2 : Array Value} {R : Ending → World → Prop} (h : ∀ w, (results fn t1).run P w = (results fn t2).run P w) : ∀ (ds : List Deferred) (u : FrameMode) (w : World), Leaves P fn t1 R ds u w → Leaves P fn t2 R ds u w
  | [], .returning, w, ⟨v, h1, h2⟩ => ⟨v, (h w).symm.trans h1, h2⟩
  | [], .panicking _, _, k => k
  | [], .run, _, k => k
  | _ :: ds, _, _, ⟨h0, fv, cap, f, args, h1, h2, h3⟩ => ⟨h0, fv, cap, f, args, h1, h2, h3.mono fun e _ _ => by
      cases e with
      | returned v => exact leaves_tmps h ds _ _
      | panicked c => exact leaves_tmps h ds _ _
      | outgrown => exact id⟩
theorem res27 (t : Array Value) (d : Nat) (v : Value) (h : d ≠ 6) (w : World) : (results Try.f27 (t.setIfInBounds d v)).run Try.prog w = (results Try.f27 t).run Try.prog w := by
  simp [results, Try.results27, go_sem, Array.getElem?_setIfInBounds, h]

theorem put_done (w : World) (bc : Nat) (i b : Int) (e6 : w.cell? ⟨bc, 6, none⟩ = some (.bool true)) :
    Calls Try.prog 75 #[.pointer (some ⟨bc, 0, none⟩), .int .i64 i, .int .i64 b] w fun e w' => e = .returned (.int .i64 43) ∧ w' = w := by
  go_enter Try.func75, Try.ntmps75
  go_wp2_with fail
  go_ret
  exact ⟨rfl, rfl⟩

set_option maxRecDepth 100000 in
theorem decide_done (w : World) (bc : Nat) (i b : Int) (e6 : ∀ w', Fr (fun _ => False) w w' → w'.cell? ⟨bc, 6, none⟩ = some (.bool true)) :
    Calls Try.prog 74 #[.agg #[.pointer (some ⟨bc, 0, none⟩)], .int .i64 i, .int .i64 b] w fun e w' => e = .panicked [{ v := .iface 27 (.int .i64 43), recovered := false }] ∧ Fr (fun _ => False) w w' := by
  have HP : Hid (∀ w', Fr (fun _ => False) w w' → Calls Try.prog 75 #[.pointer (some ⟨bc, 0, none⟩), .int .i64 i, .int .i64 b] w' fun e w'' => e = .returned (.int .i64 43) ∧ w'' = w') := fun w' f => put_done w' bc i b (e6 w' f)
  clear e6
  go_enter Try.func74, Try.ntmps74
  go_wp2_with fail
  refine (HP.out _ ((Fr.refl _ _).alloc _)).mono ?_
  rintro e w1 ⟨rfl, rfl⟩
  go_wp2_with fail
  exact ⟨rfl, rfl, (Fr.refl _ _).alloc _⟩

theorem caught_p (p : Addr) (x : Int) (w : World) (hc : w.cell? p = some (.int .i64 x)) (hz : w.frozen? p = false) :
    CallsD Try.prog 42 #[.pointer (some p)] (.panicking [{ v := .iface 27 (.int .i64 43), recovered := false }]) w fun e u' w' => e = .returned (.tuple #[]) ∧ u' = .panicking [{ v := .iface 27 (.int .i64 43), recovered := true }] ∧ w' = w.setCell p (.int .i64 43) := by
  have hta : ∀ w, Sem.run Try.prog (Instr.typeAssert (.iface 27 (.int .i64 43)) 20 27 false) w = .ok (.int .i64 43) w := fun w => by kernel_rfl
  refine callsD_of_wpS Try.func42 rfl fun c₀ cs hu => ?_
  apply wpS_seq
  apply wpS_region
  simp [wpOpsS, go_sem, recoverD, hu, Try.ntmps42, Exit.thenS]
  apply wpS_seq
  apply wpS_region
  simp [wpOpsS, go_sem, Array.replicate, Exit.thenS]
  refine wpS_cond (t := true) (by simp [Act.eval]) ?_
  simp only [if_true]
  apply wpS_region
  simp [wpOpsS, go_sem, hc, hz, hta, bodyPostS, results, Try.results42]

set_option linter.unusedSimpArgs false in
set_option maxRecDepth 100000 in
set_option maxHeartbeats 2000000 in
theorem pixels_done (bc g gi S cap n : Nat) (base t Z O : Nat) (skip : Bool) (X C : Nat) (w : World) (hX : w.cell? ⟨g, 0, none⟩ = some (.int .u64 (X : Int))) (hC : w.cell? ⟨gi, 0, none⟩ = some (.int .i64 (C : Int))) (hn : 0 < n) (hS : 0 < S)
    (e6 : ∀ w', Fr (fun _ => False) w w' → w'.cell? ⟨bc, 6, none⟩ = some (.bool true)) :
    Calls Try.prog 44 #[.agg #[.int .i64 base, .int .i64 t, .int .i64 Z, .int .i64 O, .bool skip], .iface 70 (.agg #[.pointer (some ⟨bc, 0, none⟩)]), .slice (some ⟨g, 0, none⟩) S cap, .slice (some ⟨gi, 0, none⟩) n n] w fun e w' => e = .panicked [{ v := .iface 27 (.int .i64 43), recovered := false }] ∧ Fr (fun _ => False) w w' := by
  have HD : Hid (∀ (w' : World) (i b : Int), Fr (fun _ => False) w w' → Calls Try.prog 74 #[.agg #[.pointer (some ⟨bc, 0, none⟩)], .int .i64 i, .int .i64 b] w' fun e w'' => e = .panicked [{ v := .iface 27 (.int .i64 43), recovered := false }] ∧ Fr (fun _ => False) w' w'') := fun w' i b f => decide_done w' bc i b (fun w2 f2 => e6 w2 (f.trans f2 (fun _ _ h => h)))
  have HCX : Hid (∀ w', Fr (fun _ => False) w w' → w'.cell? ⟨g, 0, none⟩ = some (.int .u64 (X : Int)) ∧ w'.cell? ⟨gi, 0, none⟩ = some (.int .i64 (C : Int))) := fun w' f => ⟨by rw [f.cellEq (seen_lt hX) (fun h => h)]; exact hX, by rw [f.cellEq (seen_lt hC) (fun h => h)]; exact hC⟩
  clear e6 hX hC
  have HF1 : Hid (Fr (fun _ => False) w (w.alloc (.cells #[.int .i64 base, .int .i64 t, .int .i64 Z, .int .i64 O, .bool skip] 62))) := (Fr.refl _ _).alloc _
  have HS1 : Hid (∀ w', Fr (fun _ => False) (w.alloc (.cells #[.int .i64 base, .int .i64 t, .int .i64 Z, .int .i64 O, .bool skip] 62)) w' → w'.cell? ⟨w.heap.size, 0, none⟩ = some (.int .i64 base)) := fun w' f => (cell_of_five ((f.block w.heap.size (by simp) (fun h => h)).trans (heap_alloc_new w _))).1
  have hah := fun w => ahead_c (.agg #[.pointer (some ⟨bc, 0, none⟩)]) w
  have hme : ∀ (v : Value) (w : World), Sem.run Try.prog (method 236 70 v "burin/generic.decide") w = .ok (74, v) w := fun v w => by kernel_rfl
  have dn : decide ((0 : Int) < (n : Int)) = true := decide_eq_true (by omega)
  have hmf : ∀ (fn : Fn) (first cap : Array Value) (w : World), (Instr.makeFunc fn first cap).run Try.prog w = .ok (.func fn first cap) w := fun _ _ _ _ => rfl
  go_enter Try.func44, Try.ntmps44
  go_wp2_with fail
  generalize w.alloc (.cells #[.int .i64 base, .int .i64 t, .int .i64 Z, .int .i64 O, .bool skip] 62) = w1 at *
  go_loopg [8, 16] 1 (fun _ a k wr => a = .int .i64 0 ∧ k = .int .i64 0 ∧ wr = w1)
  case atStart => exact ⟨rfl, rfl, rfl⟩
  case round =>
    obtain ⟨rfl, rfl, rfl⟩ := hrel
    obtain ⟨q1, q2⟩ := HCX.out _ HF1.out
    have q3 := HS1.out _ (Fr.refl _ _)
    go_upto_region 6 with (fail)
    refine wp_region_held_drew (S := fun w' => w'.cell? ⟨w.heap.size, 0, none⟩ = some (.int .i64 base) ∧ w'.cell? ⟨g, 0, none⟩ = some (.int .u64 (X : Int))) (by kernel_rfl) ⟨HS1.out _ (Fr.refl _ _).drew, (HCX.out _ HF1.out.drew).1⟩ (fun hHeld => ?_)
    refine wpAnyH_take (i := 0) (oi := _) (v := ?vv0) rfl (by kernel_rfl) (by kernel_rfl) (by kernel_rfl) (fun _ _ _ h => h) (Or.inl ⟨by kernel_rfl, ?hy0⟩) (by assumption) ?_
    case hy0 => (intro w hSw; (try dsimp only at hSw); obtain ⟨s0, s1⟩ := hSw; go_simp; all_goals (with_reducible rfl))
    (try simp only [Act.put, List.setIfInBounds_toArray, List.set_cons_zero, List.set_cons_succ])
    refine wpAnyH_take (i := 1) (oi := _) (v := ?vv1) rfl (by kernel_rfl) (by kernel_rfl) (by kernel_rfl) (fun _ _ _ h => h) (Or.inl ⟨by kernel_rfl, ?hy1⟩) (by assumption) ?_
    case hy1 => (intro w hSw; (try dsimp only at hSw); obtain ⟨s0, s1⟩ := hSw; go_simp; all_goals (with_reducible rfl))
    (try simp only [Act.put, List.setIfInBounds_toArray, List.set_cons_zero, List.set_cons_succ])
    refine wpAnyH_take (i := 2) (oi := _) (v := ?vv2) rfl (by kernel_rfl) (by kernel_rfl) (by kernel_rfl) (fun _ _ _ h => h) (Or.inl ⟨by kernel_rfl, ?hy2⟩) (by assumption) ?_
    case hy2 => (intro w hSw; (try dsimp only at hSw); obtain ⟨s0, s1⟩ := hSw; go_simp; all_goals (with_reducible rfl))
    (try simp only [Act.put, List.setIfInBounds_toArray, List.set_cons_zero, List.set_cons_succ])
    refine wpAnyH_take (i := 3) (oi := _) (v := ?vv3) rfl (by kernel_rfl) (by kernel_rfl) (by kernel_rfl) (fun _ _ _ h => h) (Or.inl ⟨by kernel_rfl, ?hy3⟩) (by assumption) ?_
    case hy3 => (intro w hSw; (try dsimp only at hSw); obtain ⟨s0, s1⟩ := hSw; go_simp; all_goals (with_reducible rfl))
    (try simp only [Act.put, List.setIfInBounds_toArray, List.set_cons_zero, List.set_cons_succ])
    refine wpAnyH_take (i := 4) (oi := _) (v := ?vv4) rfl (by kernel_rfl) (by kernel_rfl) (by kernel_rfl) (fun _ _ _ h => h) (Or.inl ⟨by kernel_rfl, ?hy4⟩) (by assumption) ?_
    case hy4 => (intro w hSw; (try dsimp only at hSw); obtain ⟨s0, s1⟩ := hSw; go_simp; all_goals (with_reducible rfl))
    (try simp only [Act.put, List.setIfInBounds_toArray, List.set_cons_zero, List.set_cons_succ])
    refine wpAnyH_take (i := 5) (oi := _) (v := ?vv5) rfl (by kernel_rfl) (by kernel_rfl) (by kernel_rfl) (fun _ _ _ h => h) (Or.inl ⟨by kernel_rfl, ?hy5⟩) (by assumption) ?_
    case hy5 => (intro w hSw; (try dsimp only at hSw); obtain ⟨s0, s1⟩ := hSw; go_simp; all_goals (with_reducible rfl))
    (try simp only [Act.put, List.setIfInBounds_toArray, List.set_cons_zero, List.set_cons_succ])
    refine wpAnyH_take (i := 6) (oi := _) (v := ?vv6) rfl (by kernel_rfl) (by kernel_rfl) (by kernel_rfl) (fun _ _ _ h => h) (Or.inl ⟨by kernel_rfl, ?hy6⟩) (by assumption) ?_
    case hy6 => (intro w hSw; (try dsimp only at hSw); obtain ⟨s0, s1⟩ := hSw; go_simp; all_goals (with_reducible rfl))
    (try simp only [Act.put, List.setIfInBounds_toArray, List.set_cons_zero, List.set_cons_succ])
    refine wpAnyH_take (i := 7) (oi := _) (v := ?vv7) rfl (by kernel_rfl) (by kernel_rfl) (by kernel_rfl) (fun _ _ _ h => h) (Or.inl ⟨by kernel_rfl, ?hy7⟩) (by assumption) ?_
    case hy7 => (intro w hSw; (try dsimp only at hSw); obtain ⟨s0, s1⟩ := hSw; go_simp; all_goals (with_reducible rfl))
    (try simp only [Act.put, List.setIfInBounds_toArray, List.set_cons_zero, List.set_cons_succ])
    refine wpAnyH_take (i := 8) (oi := _) (v := ?vv8) rfl (by kernel_rfl) (by kernel_rfl) (by kernel_rfl) (fun _ _ _ h => h) (Or.inl ⟨by kernel_rfl, ?hy8⟩) (by assumption) ?_
    case hy8 => (intro w hSw; (try dsimp only at hSw); obtain ⟨s0, s1⟩ := hSw; go_simp; all_goals (with_reducible rfl))
    (try simp only [Act.put, List.setIfInBounds_toArray, List.set_cons_zero, List.set_cons_succ])
    refine wpAnyH_take (i := 9) (oi := _) (v := ?vv9) rfl (by kernel_rfl) (by kernel_rfl) (by kernel_rfl) (fun _ _ _ h => h) (Or.inl ⟨by kernel_rfl, ?hy9⟩) (by assumption) ?_
    case hy9 => (intro w hSw; (try dsimp only at hSw); obtain ⟨s0, s1⟩ := hSw; go_simp; all_goals (with_reducible rfl))
    (try simp only [Act.put, List.setIfInBounds_toArray, List.set_cons_zero, List.set_cons_succ])
    refine wpAnyH_take (i := 10) (oi := _) (v := ?vv10) rfl (by kernel_rfl) (by kernel_rfl) (by kernel_rfl) (fun _ _ _ h => h) (Or.inl ⟨by kernel_rfl, ?hy10⟩) (by assumption) ?_
    case hy10 => (intro w hSw; (try dsimp only at hSw); obtain ⟨s0, s1⟩ := hSw; go_simp; all_goals (with_reducible rfl))
    (try simp only [Act.put, List.setIfInBounds_toArray, List.set_cons_zero, List.set_cons_succ])
    refine wpAnyH_take (i := 11) (oi := _) (v := ?vv11) rfl (by kernel_rfl) (by kernel_rfl) (by kernel_rfl) (fun _ _ _ h => h) (Or.inl ⟨by kernel_rfl, ?hy11⟩) (by assumption) ?_
    case hy11 => (intro w hSw; (try dsimp only at hSw); obtain ⟨s0, s1⟩ := hSw; go_simp; all_goals (with_reducible rfl))
    (try simp only [Act.put, List.setIfInBounds_toArray, List.set_cons_zero, List.set_cons_succ])
    refine wpAnyH_take (i := 12) (oi := _) (v := ?vv12) rfl (by kernel_rfl) (by kernel_rfl) (by kernel_rfl) (fun _ _ _ h => h) (Or.inl ⟨by kernel_rfl, ?hy12⟩) (by assumption) ?_
    case hy12 => (intro w hSw; (try dsimp only at hSw); obtain ⟨s0, s1⟩ := hSw; go_simp; all_goals (with_reducible rfl))
    (try simp only [Act.put, List.setIfInBounds_toArray, List.set_cons_zero, List.set_cons_succ])
    refine wpAnyH_take (i := 13) (oi := _) (v := ?vv13) rfl (by kernel_rfl) (by kernel_rfl) (by kernel_rfl) (fun _ _ _ h => h) (Or.inl ⟨by kernel_rfl, ?hy13⟩) (by assumption) ?_
    case hy13 => (intro w hSw; (try dsimp only at hSw); obtain ⟨s0, s1⟩ := hSw; go_simp; all_goals (with_reducible rfl))
    (try simp only [Act.put, List.setIfInBounds_toArray, List.set_cons_zero, List.set_cons_succ])
    refine wpAnyH_take (i := 14) (oi := _) (v := ?vv14) rfl (by kernel_rfl) (by kernel_rfl) (by kernel_rfl) (fun _ _ _ h => h) (Or.inl ⟨by kernel_rfl, ?hy14⟩) (by assumption) ?_
    case hy14 => (intro w hSw; (try dsimp only at hSw); obtain ⟨s0, s1⟩ := hSw; go_simp; all_goals (with_reducible rfl))
    (try simp only [Act.put, List.setIfInBounds_toArray, List.set_cons_zero, List.set_cons_succ])
    refine wpAnyH_take (i := 15) (oi := _) (v := ?vv15) rfl (by kernel_rfl) (by kernel_rfl) (by kernel_rfl) (fun _ _ _ h => h) (Or.inl ⟨by kernel_rfl, ?hy15⟩) (by assumption) ?_
    case hy15 => (intro w hSw; (try dsimp only at hSw); obtain ⟨s0, s1⟩ := hSw; go_simp; all_goals (with_reducible rfl))
    (try simp only [Act.put, List.setIfInBounds_toArray, List.set_cons_zero, List.set_cons_succ])
    refine wpAnyH_take (i := 16) (oi := _) (v := ?vv16) rfl (by kernel_rfl) (by kernel_rfl) (by kernel_rfl) (fun _ _ _ h => h) (Or.inl ⟨by kernel_rfl, ?hy16⟩) (by assumption) ?_
    case hy16 => (intro w hSw; (try dsimp only at hSw); obtain ⟨s0, s1⟩ := hSw; go_simp; all_goals (with_reducible rfl))
    (try simp only [Act.put, List.setIfInBounds_toArray, List.set_cons_zero, List.set_cons_succ])
    refine wpAnyH_ready (rs := [17]) (by kernel_rfl) (by simp) ?_
    refine (AllReadyH.cons (o := _) rfl (fun K hK => ?_) AllReadyH.nil)
    go_simp
    refine (HD.out _ _ _ HF1.out.drew).mono ?_
    rintro e w5 ⟨rfl, hf5⟩
    have HF5 : Hid (Fr (fun _ => False) w w5) := HF1.out.drew.trans hf5 (fun _ _ h => h)
    clear hf5
    go_simp
    exact ⟨rfl, rfl, HF5.out⟩

set_option linter.unusedSimpArgs false in
set_option maxRecDepth 100000 in
set_option maxHeartbeats 4000000 in
theorem through_done (bc base t W H g cap : Nat) (P : Pxs) (w : World) (e6 : ∀ w', Fr (fun _ => False) w w' → w'.cell? ⟨bc, 6, none⟩ = some (.bool true)) (hr : RowAt w g cap W H P) (ht : t < 4) (h1 : 1 ≤ W) (h2 : 1 ≤ H) (h3 : W * H ≤ 1048576) :
    Calls Try.prog 27 #[.agg #[.pointer (some ⟨bc, 0, none⟩)], procV base t false, .agg #[.int .i64 W, .int .i64 H, .slice (some ⟨g, 0, none⟩) (H * stride W) cap]] w fun e w' => e = .returned (.int .i64 43) ∧ Fr (fun _ => False) w w' := by
  obtain ⟨f1, f2, f3⟩ := size_facts h1 h2 h3
  have hS : 0 < stride W := stride_pos (by omega)
  have hS2 : stride W ≤ 1048576 := by unfold stride; omega
  obtain ⟨i0, hi, hz0, hz1, hz2⟩ := info_parts Try.info98
  have hmf : ∀ (fn : Fn) (first cap : Array Value) (w : World), (Instr.makeFunc fn first cap).run Try.prog w = .ok (.func fn first cap) w := fun _ _ _ _ => rfl
  have hdiv : Int.tdiv ((H * stride W : Nat) : Int) (H : Int) = (stride W : Int) := by
    rw [Int.tdiv_eq_ediv_of_nonneg (by omega), Int.natCast_mul, Int.mul_ediv_cancel_left _ (by omega)]
  have hH0 : ((H : Int) == 0) = false := by rw [beq_eq_false_iff_ne]; omega
  have dH : decide ((0 : Int) < (H : Int)) = true := decide_eq_true (by omega)
  obtain ⟨hcap, hcm⟩ : H * stride W ≤ cap ∧ cap ≤ maxLen := by obtain ⟨_, _, a, b, _, _⟩ := hr.cur; exact ⟨a, b⟩
  have hle : stride W ≤ H * stride W := Nat.le_mul_of_pos_left _ h2
  have HCX : Hid (∀ (wX : World), Fr (fun _ => False) w wX → Calls Try.prog 45 #[.agg #[.int .i64 base, .int .i64 t, .int .i64 (sizeT t : Nat), .int .i64 ((2 ^ cntS t 2 - 1 : Nat) : Int), .bool false], .agg #[.int .i64 W, .int .i64 H, .slice (some ⟨g, 0, none⟩) (H * stride W) cap], .int .i64 0] wX fun e w' => ∃ gi, e = .returned (.slice (some ⟨gi, 0, none⟩) W W) ∧ (∃ C : Nat, w'.cell? ⟨gi, 0, none⟩ = some (.int .i64 (C : Int))) ∧ Fr (fun _ => False) wX w') := fun wX f => by
    refine (contexts_any base t W H 0 g cap false P wX (hr.kept f (fun h => h)) ht (by omega) h1 h3).mono ?_
    rintro e w' ⟨gi, rfl, hi, _, hf⟩
    exact ⟨gi, rfl, ⟨_, IntRow.get hi (by omega)⟩, hf⟩
  have HPX : Hid (∀ (w6 : World) (gi C : Nat), Fr (fun _ => False) w w6 → w6.cell? ⟨gi, 0, none⟩ = some (.int .i64 (C : Int)) → Calls Try.prog 44 #[.agg #[.int .i64 base, .int .i64 t, .int .i64 (sizeT t : Nat), .int .i64 ((2 ^ cntS t 2 - 1 : Nat) : Int), .bool false], .iface 70 (.agg #[.pointer (some ⟨bc, 0, none⟩)]), .slice (some ⟨g, 0, none⟩) (stride W) cap, .slice (some ⟨gi, 0, none⟩) W W] w6 fun e w' => e = .panicked [{ v := .iface 27 (.int .i64 43), recovered := false }] ∧ Fr (fun _ => False) w6 w') := fun w6 gi C f hC => by
    obtain ⟨X, hX⟩ : ∃ X : Nat, w6.cell? ⟨g, 0, none⟩ = some (.int .u64 (X : Int)) := by
      have hr6 := hr.kept f (fun h => h)
      have hpos : 0 < H * stride W := Nat.mul_pos (by omega) hS
      exact ⟨_, (World.ownsRow.cellAt hr6 0 (by omega)).trans (by rw [wordCells_get, render_get' P hpos]; rfl)⟩
    exact pixels_done bc g gi (stride W) cap W base t _ _ false X C w6 hX hC (by omega) hS (fun w2 f2 => e6 w2 (f.trans f2 (fun _ _ h => h)))
  unfold procV
  clear e6 hr
  have HF4 : Hid (Fr (fun _ => False) w ((((w.alloc (.cells #[.pointer (some ⟨bc, 0, none⟩)] 70)).alloc (.cells #[.int .i64 base, .int .i64 t, .int .i64 (sizeT t : Nat), .int .i64 ((2 ^ cntS t 2 - 1 : Nat) : Int), .bool false] 62)).alloc (.cells #[.int .i64 W, .int .i64 H, .slice (some ⟨g, 0, none⟩) (H * stride W) cap] 24)).alloc (.cells #[.int .i64 0] 27))) := ((((Fr.refl _ _).alloc _).alloc _).alloc _).alloc _
  have HB4 : Hid (∀ w', Fr (fun _ => False) ((((w.alloc (.cells #[.pointer (some ⟨bc, 0, none⟩)] 70)).alloc (.cells #[.int .i64 base, .int .i64 t, .int .i64 (sizeT t : Nat), .int .i64 ((2 ^ cntS t 2 - 1 : Nat) : Int), .bool false] 62)).alloc (.cells #[.int .i64 W, .int .i64 H, .slice (some ⟨g, 0, none⟩) (H * stride W) cap] 24)).alloc (.cells #[.int .i64 0] 27)) w' →
      w'.heap[w.heap.size]? = some (.cells #[.pointer (some ⟨bc, 0, none⟩)] 70 (0, 0)) ∧ w'.heap[w.heap.size + 1]? = some (.cells #[.int .i64 base, .int .i64 t, .int .i64 (sizeT t : Nat), .int .i64 ((2 ^ cntS t 2 - 1 : Nat) : Int), .bool false] 62 (0, 0)) ∧ w'.heap[w.heap.size + 1 + 1]? = some (.cells #[.int .i64 W, .int .i64 H, .slice (some ⟨g, 0, none⟩) (H * stride W) cap] 24 (0, 0)) ∧ w'.heap[w.heap.size + 1 + 1 + 1]? = some (.cells #[.int .i64 0] 27 (0, 0))) := fun w' f => by
    have q4 := heap_alloc_new (((w.alloc (.cells #[.pointer (some ⟨bc, 0, none⟩)] 70)).alloc (.cells #[.int .i64 base, .int .i64 t, .int .i64 (sizeT t : Nat), .int .i64 ((2 ^ cntS t 2 - 1 : Nat) : Int), .bool false] 62)).alloc (.cells #[.int .i64 W, .int .i64 H, .slice (some ⟨g, 0, none⟩) (H * stride W) cap] 24)) (.cells #[.int .i64 0] 27)
    have q3 := heap_alloc_new ((w.alloc (.cells #[.pointer (some ⟨bc, 0, none⟩)] 70)).alloc (.cells #[.int .i64 base, .int .i64 t, .int .i64 (sizeT t : Nat), .int .i64 ((2 ^ cntS t 2 - 1 : Nat) : Int), .bool false] 62)) (.cells #[.int .i64 W, .int .i64 H, .slice (some ⟨g, 0, none⟩) (H * stride W) cap] 24)
    have q2 := heap_alloc_new (w.alloc (.cells #[.pointer (some ⟨bc, 0, none⟩)] 70)) (.cells #[.int .i64 base, .int .i64 t, .int .i64 (sizeT t : Nat), .int .i64 ((2 ^ cntS t 2 - 1 : Nat) : Int), .bool false] 62)
    have q1 := heap_alloc_new w (.cells #[.pointer (some ⟨bc, 0, none⟩)] 70)
    simp only [World.size_alloc] at q1 q2 q3 q4
    refine ⟨?_, ?_, ?_, ?_⟩
    · rw [f.block _ (by simp only [World.size_alloc]; omega) (fun h => h), Below.heap_alloc _ _ _ (by simp only [World.size_alloc]; omega), Below.heap_alloc _ _ _ (by simp only [World.size_alloc]; omega), Below.heap_alloc _ _ _ (by simp only [World.size_alloc]; omega)]; exact q1
    · rw [f.block _ (by simp only [World.size_alloc]; omega) (fun h => h), Below.heap_alloc _ _ _ (by simp only [World.size_alloc]; omega), Below.heap_alloc _ _ _ (by simp only [World.size_alloc]; omega)]; exact q2
    · rw [f.block _ (by simp only [World.size_alloc]; omega) (fun h => h), Below.heap_alloc _ _ _ (by simp only [World.size_alloc]; omega)]; exact q3
    · rw [f.block _ (by simp only [World.size_alloc]; omega) (fun h => h)]; exact q4
  generalize stride W = S at *
  generalize H * S = N at *
  go_enter_defers Try.func27, Try.ntmps27
  go_wp2_with (first | (at_make; refine wpList_make_full _ rfl _ _ 22 rfl 0 67 i0 (.int .u64 0) 1 Try.underlying22 hi hz0 hz1 .i64 .i64 _ _ S rfl rfl ?_ ?_ ?_ ?_ ?_ ?_))
  · omega
  · omega
  · first | omega | (rw [hz2]; omega)
  · unfold maxLen; omega
  · intro w5 hown hgrow
    have hf5 := (Fr.refl (fun _ => False) _).grown hgrow (fun _ e _ => by cases e)
    have HF5 : Hid (Fr (fun _ => False) w w5) := HF4.out.trans hf5 (fun _ _ h => h)
    have HB5 : Hid (∀ w', Fr (fun _ => False) w5 w' → _) := fun w' f => HB4.out w' (hf5.trans f (fun _ _ h => h))
    clear hown hgrow hf5 HF4 HB4 hi hz0 hz1 hz2
    have HS5 : Hid (∀ w', Fr (fun _ => False) w5 w' → w'.cell? ⟨w.heap.size, 0, none⟩ = some (.pointer (some ⟨bc, 0, none⟩)) ∧ w'.cell? ⟨w.heap.size + 1, 0, none⟩ = some (.int .i64 base) ∧ w'.cell? ⟨w.heap.size + 1, 1, none⟩ = some (.int .i64 t) ∧ w'.cell? ⟨w.heap.size + 1, 2, none⟩ = some (.int .i64 (sizeT t : Nat)) ∧ w'.cell? ⟨w.heap.size + 1, 3, none⟩ = some (.int .i64 ((2 ^ cntS t 2 - 1 : Nat) : Int)) ∧ w'.cell? ⟨w.heap.size + 1, 4, none⟩ = some (.bool false) ∧ w'.cell? ⟨w.heap.size + 1 + 1, 0, none⟩ = some (.int .i64 W) ∧ w'.cell? ⟨w.heap.size + 1 + 1, 1, none⟩ = some (.int .i64 H) ∧ w'.cell? ⟨w.heap.size + 1 + 1, 2, none⟩ = some (.slice (some ⟨g, 0, none⟩) N cap)) := fun w' f => by
      obtain ⟨b0, b1, b2, b3⟩ := HB5.out w' f
      obtain ⟨p0, p1, p2, p3, p4, _⟩ := cell_of_five b1
      obtain ⟨q0, q1, q2, _⟩ := cell_of_three b2
      exact ⟨by simp [World.cell?, b0], p0, p1, p2, p3, p4, q0, q1, q2⟩
    obtain ⟨c0, c1, c2, c3, c4, c5, c6, c7, c8⟩ := HS5.out w5 (Fr.refl _ _)
    go_wp2_with fail
    go_loopg [8, 22] 1 (fun _ a k wr => (∃ ao na ca, a = .slice ao na ca) ∧ k = .int .i64 0 ∧ wr = w5)
    case atStart => exact ⟨⟨_, _, _, rfl⟩, rfl, rfl⟩
    case round =>
      obtain ⟨⟨ao, na, ca, rfl⟩, rfl, rfl⟩ := hrel
      go_upto_region 9 with (fail)
      refine wp_region_held_drew (S := fun w' => w'.cell? ⟨w.heap.size, 0, none⟩ = some (.pointer (some ⟨bc, 0, none⟩)) ∧ w'.cell? ⟨w.heap.size + 1, 0, none⟩ = some (.int .i64 base) ∧ w'.cell? ⟨w.heap.size + 1, 1, none⟩ = some (.int .i64 t) ∧ w'.cell? ⟨w.heap.size + 1, 2, none⟩ = some (.int .i64 (sizeT t : Nat)) ∧ w'.cell? ⟨w.heap.size + 1, 3, none⟩ = some (.int .i64 ((2 ^ cntS t 2 - 1 : Nat) : Int)) ∧ w'.cell? ⟨w.heap.size + 1, 4, none⟩ = some (.bool false) ∧ w'.cell? ⟨w.heap.size + 1 + 1, 0, none⟩ = some (.int .i64 W) ∧ w'.cell? ⟨w.heap.size + 1 + 1, 1, none⟩ = some (.int .i64 H) ∧ w'.cell? ⟨w.heap.size + 1 + 1, 2, none⟩ = some (.slice (some ⟨g, 0, none⟩) N cap)) (by kernel_rfl) (HS5.out _ (Fr.refl _ _).drew) (fun hHeld => ?_)
      refine wpAnyH_take (i := 0) (oi := _) (v := ?vvt0) rfl (by kernel_rfl) (by kernel_rfl) (by kernel_rfl) (fun _ a _ h => leaves_tmps (res27 a.tmps 47 _ (by decide)) _ _ _ h) (Or.inl ⟨by kernel_rfl, ?hyt0⟩) (by assumption) ?_
      case hyt0 => (intro w hSw; (try dsimp only at hSw); obtain ⟨s0, s1, s2, s3, s4, s5, s6, s7, s8⟩ := hSw; go_simp; all_goals (with_reducible rfl))
      (try simp only [Act.put, List.setIfInBounds_toArray, List.set_cons_zero, List.set_cons_succ])
      refine wpAnyH_take (i := 1) (oi := _) (v := ?vvt1) rfl (by kernel_rfl) (by kernel_rfl) (by kernel_rfl) (fun _ a _ h => leaves_tmps (res27 a.tmps 48 _ (by decide)) _ _ _ h) (Or.inl ⟨by kernel_rfl, ?hyt1⟩) (by assumption) ?_
      case hyt1 => (intro w hSw; (try dsimp only at hSw); obtain ⟨s0, s1, s2, s3, s4, s5, s6, s7, s8⟩ := hSw; go_simp; all_goals (with_reducible rfl))
      (try simp only [Act.put, List.setIfInBounds_toArray, List.set_cons_zero, List.set_cons_succ])
      refine wpAnyH_take (i := 2) (oi := _) (v := ?vvt2) rfl (by kernel_rfl) (by kernel_rfl) (by kernel_rfl) (fun _ a _ h => leaves_tmps (res27 a.tmps 49 _ (by decide)) _ _ _ h) (Or.inl ⟨by kernel_rfl, ?hyt2⟩) (by assumption) ?_
      case hyt2 => (intro w hSw; (try dsimp only at hSw); obtain ⟨s0, s1, s2, s3, s4, s5, s6, s7, s8⟩ := hSw; go_simp; all_goals (with_reducible rfl))
      (try simp only [Act.put, List.setIfInBounds_toArray, List.set_cons_zero, List.set_cons_succ])
      refine wpAnyH_take (i := 3) (oi := _) (v := ?vvt3) rfl (by kernel_rfl) (by kernel_rfl) (by kernel_rfl) (fun _ a _ h => leaves_tmps (res27 a.tmps 50 _ (by decide)) _ _ _ h) (Or.inl ⟨by kernel_rfl, ?hyt3⟩) (by assumption) ?_
      case hyt3 => (intro w hSw; (try dsimp only at hSw); obtain ⟨s0, s1, s2, s3, s4, s5, s6, s7, s8⟩ := hSw; go_simp; all_goals (with_reducible rfl))
      (try simp only [Act.put, List.setIfInBounds_toArray, List.set_cons_zero, List.set_cons_succ])
      refine wpAnyH_take (i := 4) (oi := _) (v := ?vvt4) rfl (by kernel_rfl) (by kernel_rfl) (by kernel_rfl) (fun _ a _ h => leaves_tmps (res27 a.tmps 51 _ (by decide)) _ _ _ h) (Or.inl ⟨by kernel_rfl, ?hyt4⟩) (by assumption) ?_
      case hyt4 => (intro w hSw; (try dsimp only at hSw); obtain ⟨s0, s1, s2, s3, s4, s5, s6, s7, s8⟩ := hSw; go_simp; all_goals (with_reducible rfl))
      (try simp only [Act.put, List.setIfInBounds_toArray, List.set_cons_zero, List.set_cons_succ])
      refine wpAnyH_take (i := 5) (oi := _) (v := ?vvt5) rfl (by kernel_rfl) (by kernel_rfl) (by kernel_rfl) (fun _ a _ h => leaves_tmps (res27 a.tmps 52 _ (by decide)) _ _ _ h) (Or.inl ⟨by kernel_rfl, ?hyt5⟩) (by assumption) ?_
      case hyt5 => (intro w hSw; (try dsimp only at hSw); obtain ⟨s0, s1, s2, s3, s4, s5, s6, s7, s8⟩ := hSw; go_simp; all_goals (with_reducible rfl))
      (try simp only [Act.put, List.setIfInBounds_toArray, List.set_cons_zero, List.set_cons_succ])
      refine wpAnyH_take (i := 6) (oi := _) (v := ?vvt6) rfl (by kernel_rfl) (by kernel_rfl) (by kernel_rfl) (fun _ a _ h => leaves_tmps (res27 a.tmps 53 _ (by decide)) _ _ _ h) (Or.inl ⟨by kernel_rfl, ?hyt6⟩) (by assumption) ?_
      case hyt6 => (intro w hSw; (try dsimp only at hSw); obtain ⟨s0, s1, s2, s3, s4, s5, s6, s7, s8⟩ := hSw; go_simp; all_goals (with_reducible rfl))
      (try simp only [Act.put, List.setIfInBounds_toArray, List.set_cons_zero, List.set_cons_succ])
      refine wpAnyH_ready (rs := [7]) (by kernel_rfl) (by simp) ?_
      refine (AllReadyH.cons (o := _) rfl (fun K hK => ?_) AllReadyH.nil)
      go_simp
      refine (HCX.out _ HF5.out.drew).mono ?_
      rintro e w6 ⟨gi, rfl, ⟨C, hC⟩, hf6⟩
      have HF6 : Hid (Fr (fun _ => False) wr w6) := ((Fr.refl (fun _ => False) wr).drew).trans hf6 (fun _ _ h => h)
      have HC6 : Hid (w6.cell? ⟨gi, 0, none⟩ = some (.int .i64 (C : Int))) := hC
      clear hC hf6
      go_simp
      refine hK.out _ _ (HS5.out _ HF6.out) (fun hHeld => ?_)
      clear hK K
      (try simp only [Act.put, List.setIfInBounds_toArray, List.set_cons_zero, List.set_cons_succ])
      refine wpAnyH_ready (rs := [8]) (by kernel_rfl) (by simp) ?_
      refine (AllReadyH.cons (o := _) rfl (fun K hK => ?_) AllReadyH.nil)
      go_simp
      refine (HPX.out _ gi C (HF5.out.trans HF6.out (fun _ _ h => h)) HC6.out).mono ?_
      rintro e w7 ⟨rfl, hf7⟩
      have HF7 : Hid (Fr (fun _ => False) wr w7) := HF6.out.trans hf7 (fun _ _ h => h)
      clear hf7
      have hb7 := (HB5.out _ HF7.out).2.2.2
      have cq : w7.cell? ⟨w.heap.size + 1 + 1 + 1, 0, none⟩ = some (.int .i64 0) := by simp [World.cell?, hb7]
      have cf : w7.frozen? ⟨w.heap.size + 1 + 1 + 1, 0, none⟩ = false := by simp [World.frozen?, hb7]
      go_simp
      refine leaves_cons (f := 42) (args := #[.pointer (some ⟨w.heap.size + 1 + 1 + 1, 0, none⟩)]) (by simp) (by simp [go_sem]) ?_
      refine (caught_p _ 0 _ cq cf).mono ?_
      rintro e u' w'' ⟨rfl, rfl, rfl⟩
      have hb8 : (w7.setCell ⟨w.heap.size + 1 + 1 + 1, 0, none⟩ (.int .i64 43)).cell? ⟨w.heap.size + 1 + 1 + 1, 0, none⟩ = some (.int .i64 43) := by simp [World.cell?, World.setCell, Array.getElem?_modify, hb7]
      have h8 : Fr (fun k => k = w.heap.size + 1 + 1 + 1) w7 (w7.setCell ⟨w.heap.size + 1 + 1 + 1, 0, none⟩ (.int .i64 43)) := (Fr.refl (fun k => k = w.heap.size + 1 + 1 + 1) w7).setCell (p := ⟨w.heap.size + 1 + 1 + 1, 0, none⟩) (fun _ => rfl) _
      simp [Leaves, settle, results, Try.results27, go_sem, hb8]
      exact (HF5.out.trans HF7.out (fun _ _ h => h)).trans h8 (fun i hi e => by omega)

end Go.Proofs.Ytkggdnkmaldmlab
