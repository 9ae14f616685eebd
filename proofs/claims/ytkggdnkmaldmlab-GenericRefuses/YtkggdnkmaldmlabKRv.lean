/- Package generic: what Put and Get refuse, and the law 'GenericRefuses'. -/
import Derived.Test.YtkggdnkmaldmlabKRx
namespace Go.Proofs.Ytkggdnkmaldmlab
open Go.RowKit

set_option maxRecDepth 100000 in
set_option maxHeartbeats 1000000 in
theorem fits_no (base : Int) (t : Nat) (skip : Bool) (n : Nat) (ht : t < 4) (hn : n ≤ 131072) (h : base < 0 ∨ (n : Int) - ((sizeT t + 1 : Nat) : Int) < base) (w : World) :
    Calls Try.prog 24 #[procI base t skip, .int .i64 n] w fun e w' => e = .returned (.bool false) ∧ Fr (fun _ => False) w w' := by
  have HC : Hid (∀ w', Calls Try.prog 36 #[.agg #[.int .i64 base, .int .i64 t, .int .i64 (sizeT t : Nat), .int .i64 ((2 ^ cntS t 2 - 1 : Nat) : Int), .bool skip]] w' fun e w'' => e = .returned (.int .i64 ((sizeT t + 1 : Nat) : Int)) ∧ Fr (fun _ => False) w' w'') := fun w' => count7_any base t skip ht w'
  have hZ := sizeT_le t ht
  unfold procI
  generalize sizeT t = Z at *
  have HB1 : Hid (∀ w', Fr (fun _ => False) (w.alloc (.cells #[.int .i64 base, .int .i64 t, .int .i64 Z, .int .i64 ((2 ^ cntS t 2 - 1 : Nat) : Int), .bool skip] 62)) w' → w'.cell? ⟨w.heap.size, 0, none⟩ = some (.int .i64 base) ∧ w'.cell? ⟨w.heap.size, 1, none⟩ = some (.int .i64 t) ∧ w'.cell? ⟨w.heap.size, 2, none⟩ = some (.int .i64 Z) ∧ w'.cell? ⟨w.heap.size, 3, none⟩ = some (.int .i64 ((2 ^ cntS t 2 - 1 : Nat) : Int)) ∧ w'.cell? ⟨w.heap.size, 4, none⟩ = some (.bool skip)) := fun w' f => by
    obtain ⟨p0, p1, p2, p3, p4, _⟩ := cell_of_five ((f.block w.heap.size (by simp) (fun h => h)).trans (heap_alloc_new w _))
    exact ⟨p0, p1, p2, p3, p4⟩
  by_cases h0 : base < 0
  · have hd : decide ((0 : Int) ≤ base) = false := decide_eq_false (by omega)
    clear HB1 HC h
    go_enter Try.func24, Try.ntmps24
    go_wp2_with fail
    go_quiet (fail)
    have HF : Hid (Fr (fun _ => False) w ((w.alloc (.cells #[.int .i64 base, .int .i64 t, .int .i64 Z, .int .i64 ((2 ^ cntS t 2 - 1 : Nat) : Int), .bool skip] 62)).drewN nq)) := ((Fr.refl _ _).alloc _).drewN _
    go_wp2_with fail
    go_ret
    exact ⟨rfl, HF.out⟩
  · have hd : decide ((0 : Int) ≤ base) = true := decide_eq_true (by omega)
    have hw1 : IntKind.i64.wrap ((n : Int) - ((Z + 1 : Nat) : Int)) = (n : Int) - ((Z + 1 : Nat) : Int) := by rw [IntKind.wrap_i64]; omega
    have hd2 : decide (base ≤ (n : Int) - ((Z + 1 : Nat) : Int)) = false := decide_eq_false (by omega)
    clear h h0
    generalize ((Z + 1 : Nat) : Int) = C at *
    go_enter Try.func24, Try.ntmps24
    go_wp2_with fail
    go_region_held3 (fun w' => w'.cell? ⟨w.heap.size, 0, none⟩ = some (.int .i64 base) ∧ w'.cell? ⟨w.heap.size, 1, none⟩ = some (.int .i64 t) ∧ w'.cell? ⟨w.heap.size, 2, none⟩ = some (.int .i64 Z) ∧ w'.cell? ⟨w.heap.size, 3, none⟩ = some (.int .i64 ((2 ^ cntS t 2 - 1 : Nat) : Int)) ∧ w'.cell? ⟨w.heap.size, 4, none⟩ = some (.bool skip)) (exact HB1.out _ (by repeat (first | with_reducible exact Fr.refl _ _ | with_reducible refine Fr.drew ?_ | with_reducible refine Fr.trans ?_ hf5 (fun _ _ hh => hh)))) (first | (go_at_call 36; refine (HC.out _).mono ?_; rintro e w5 ⟨rfl, hf5⟩))
    have HF : Hid (Fr (fun _ => False) w w5) := ((Fr.refl _ _).alloc _).drew.trans hf5 (fun _ _ h => h)
    clear hf5
    go_wp2_with fail
    go_ret
    exact ⟨rfl, HF.out⟩

set_option maxRecDepth 100000 in
set_option maxHeartbeats 2000000 in
theorem gput_none (base x y ti : Int) (ao : Option Addr) (n0 cv : Nat) (skip : Bool) (w : World) :
    Calls Try.prog 8 #[.pointer none, .int .i64 base, .agg #[.int .i64 x, .int .i64 y, .slice ao n0 cv], .int .i64 ti, .bool skip] w fun e w' => e = .returned (.int .i64 53) ∧ Fr (fun _ => False) w w' := by
  go_enter Try.func8, Try.ntmps8
  go_wp2_with fail
  go_ret
  exact ⟨rfl, (Fr.refl _ _).alloc _⟩

set_option maxRecDepth 100000 in
set_option maxHeartbeats 2000000 in
theorem gput_badT (bc : Nat) (base x y ti : Int) (ao : Option Addr) (n0 cv : Nat) (skip : Bool) (w : World) (ht : ti < 0 ∨ 4 ≤ ti) :
    Calls Try.prog 8 #[.pointer (some ⟨bc, 0, none⟩), .int .i64 base, .agg #[.int .i64 x, .int .i64 y, .slice ao n0 cv], .int .i64 ti, .bool skip] w fun e w' => e = .returned (.int .i64 60) ∧ Fr (fun _ => False) w w' := by
  have HNP : Hid (∀ w', Calls Try.prog 22 #[.int .i64 base, .int .i64 ti, .bool skip] w' fun e w'' => e = .returned (.tuple #[.agg #[.int .i64 0, .int .i64 0, .int .i64 0, .int .i64 0, .bool false], .int .i64 60]) ∧ Fr (fun _ => False) w' w'') := fun w' => newProc_bad base ti skip ht w'
  clear ht
  go_enter Try.func8, Try.ntmps8
  go_wp2_with fail
  refine (HNP.out _).mono ?_
  rintro e w1 ⟨rfl, hf1⟩
  have HF1 : Hid (Fr (fun _ => False) w (w1.alloc (.cells #[.int .i64 0, .int .i64 0, .int .i64 0, .int .i64 0, .bool false] 62))) := (((Fr.refl _ _).alloc _).trans hf1 (fun _ _ h => h)).alloc _
  clear hf1
  go_wp2_with fail
  go_ret
  exact ⟨rfl, HF1.out⟩

/-- A bitmap as it is handed in. -/
structure MpT (w : World) (x y : Int) (v : Value) (l : List Nat) : Prop where
  hx : -9223372036854775808 ≤ x ∧ x ≤ 9223372036854775807
  hy : -9223372036854775808 ≤ y ∧ y ≤ 9223372036854775807
  hv : Seen w v l
  hlt : ∀ j : Nat, l[j]?.getD 0 < 18446744073709551616
theorem MpT.kept {w w' : World} {x y : Int} {v : Value} {l : List Nat} (h : MpT w x y v l) (f : Fr (fun _ => False) w w') : MpT w' x y v l := ⟨h.hx, h.hy, h.hv.kept f, h.hlt⟩
theorem MpT.check {w : World} {x y : Int} {v : Value} {l : List Nat} (h : MpT w x y v l) : Calls Try.prog 23 #[.agg #[.int .i64 x, .int .i64 y, v]] w fun e w' => e = .returned (.bool (validB x y l)) ∧ Fr (fun _ => False) w w' := check_any x y v l w h.hx h.hy h.hv h.hlt

set_option maxRecDepth 100000 in
set_option maxHeartbeats 4000000 in
theorem gput_bad (bc nx : Nat) (base : Int) (t : Nat) (x y : Int) (v : Value) (l : List Nat) (skip : Bool) (w : World) (hc : ∀ w', Fr (fun _ => False) w w' → Calls Try.prog 25 #[.pointer (some ⟨bc, 0, none⟩)] w' fun e w'' => e = .returned (.int .i64 (nx : Nat)) ∧ w'' = w') (hlim : nx ≤ 131072) (hb : MpT w x y v l) (ht : t < 4) (er : Int)
    (he : er = if validB x y l then 51 else 62) (hbase : er = 51 → base < 0 ∨ (nx : Int) - ((sizeT t + 1 : Nat) : Int) < base) :
    Calls Try.prog 8 #[.pointer (some ⟨bc, 0, none⟩), .int .i64 base, .agg #[.int .i64 x, .int .i64 y, v], .int .i64 t, .bool skip] w fun e w' => e = .returned (.int .i64 er) ∧ Fr (fun _ => False) w w' := by
  have HCk : Hid (∀ w', Fr (fun _ => False) w w' → Calls Try.prog 23 #[.agg #[.int .i64 x, .int .i64 y, v]] w' fun e w'' => e = .returned (.bool (validB x y l)) ∧ Fr (fun _ => False) w' w'') := fun w' f => (hb.kept f).check
  have HNP : Hid (∀ w', Calls Try.prog 22 #[.int .i64 base, .int .i64 t, .bool skip] w' fun e w'' => e = .returned (.tuple #[procI base t skip, .int .i64 0]) ∧ Fr (fun _ => False) w' w'') := fun w' => newProc_ok base t skip ht w'
  have HFt : Hid (er = 51 → ∀ w', Calls Try.prog 24 #[procI base t skip, .int .i64 (nx : Nat)] w' fun e w'' => e = .returned (.bool false) ∧ Fr (fun _ => False) w' w'') := fun h w' => fits_no base t skip nx ht hlim (hbase h) w'
  have HCt : Hid (∀ w', Fr (fun _ => False) w w' → Calls Try.prog 25 #[.pointer (some ⟨bc, 0, none⟩)] w' fun e w'' => e = .returned (.int .i64 (nx : Nat)) ∧ w'' = w') := hc
  obtain ⟨ao, cv, hvv, -, -⟩ := hb.hv
  generalize l.length = n0 at *
  subst hvv
  unfold procI at *
  clear hb hc hbase ht hlim
  generalize validB x y l = b1 at *
  generalize sizeT t = Z at *
  generalize 2 ^ cntS t 2 - 1 = O at *
  go_enter Try.func8, Try.ntmps8
  go_wp2_with fail
  refine (HNP.out _).mono ?_
  rintro e w1 ⟨rfl, hf1⟩
  have HF1 : Hid (Fr (fun _ => False) w (w1.alloc (.cells #[.int .i64 base, .int .i64 t, .int .i64 Z, .int .i64 O, .bool skip] 62))) := (((Fr.refl _ _).alloc _).trans hf1 (fun _ _ h => h)).alloc _
  have hs1 : w.heap.size < w1.heap.size := by have := hf1.size; simp at this; omega
  have HBX : Hid (∀ w', Fr (fun _ => False) (w1.alloc (.cells #[.int .i64 base, .int .i64 t, .int .i64 Z, .int .i64 O, .bool skip] 62)) w' → w'.heap[w.heap.size]? = some (.cells #[.int .i64 x, .int .i64 y, .slice ao n0 cv] 24 (0, 0)) ∧ w'.heap[w1.heap.size]? = some (.cells #[.int .i64 base, .int .i64 t, .int .i64 Z, .int .i64 O, .bool skip] 62 (0, 0))) := fun w' f => by
    refine ⟨?_, ?_⟩
    · rw [f.block _ (by simp; omega) (fun h => h), Below.heap_alloc _ _ _ hs1, hf1.block _ (by simp) (fun h => h)]; exact heap_alloc_new w _
    · rw [f.block _ (by simp) (fun h => h)]; exact heap_alloc_new w1 _
  have hbx := HBX.out _ (Fr.refl _ _)
  obtain ⟨q0, q1, q2, qf⟩ := cell_of_three hbx.1
  clear hf1 hbx
  go_wp2_with fail
  generalize hwA : w1.alloc (.cells #[.int .i64 base, .int .i64 t, .int .i64 Z, .int .i64 O, .bool skip] 62) = wA at *
  refine (HCk.out _ HF1.out).mono ?_
  rintro e w3 ⟨rfl, hf3⟩
  have HF3 : Hid (Fr (fun _ => False) wA w3) := hf3
  clear hf3 q0 q1 q2 qf hwA
  cases b1
  · simp only [Bool.false_eq_true, if_false] at he
    subst he
    go_wp2_with fail
    go_ret
    exact ⟨rfl, HF1.out.trans HF3.out (fun _ _ h => h)⟩
  · simp only [if_true] at he
    subst he
    have HFt' : Hid (∀ w', Calls Try.prog 24 #[.agg #[.int .i64 base, .int .i64 t, .int .i64 Z, .int .i64 O, .bool skip], .int .i64 (nx : Nat)] w' fun e w'' => e = .returned (.bool false) ∧ Fr (fun _ => False) w' w'') := HFt.out rfl
    have HS3 : Hid (∀ w', Fr (fun _ => False) w3 w' → w'.cell? ⟨w1.heap.size, 0, none⟩ = some (.int .i64 base) ∧ w'.cell? ⟨w1.heap.size, 1, none⟩ = some (.int .i64 t) ∧ w'.cell? ⟨w1.heap.size, 2, none⟩ = some (.int .i64 Z) ∧ w'.cell? ⟨w1.heap.size, 3, none⟩ = some (.int .i64 O) ∧ w'.cell? ⟨w1.heap.size, 4, none⟩ = some (.bool skip)) := fun w' f => by
      obtain ⟨p0, p1, p2, p3, p4, _⟩ := cell_of_five (HBX.out w' (HF3.out.trans f (fun _ _ h => h))).2
      exact ⟨p0, p1, p2, p3, p4⟩
    obtain ⟨p0, p1, p2, p3, p4⟩ := HS3.out w3 (Fr.refl _ _)
    go_wp2_with fail
    go_region_held3 (fun w' => w'.cell? ⟨w1.heap.size, 0, none⟩ = some (.int .i64 base) ∧ w'.cell? ⟨w1.heap.size, 1, none⟩ = some (.int .i64 t) ∧ w'.cell? ⟨w1.heap.size, 2, none⟩ = some (.int .i64 Z) ∧ w'.cell? ⟨w1.heap.size, 3, none⟩ = some (.int .i64 O) ∧ w'.cell? ⟨w1.heap.size, 4, none⟩ = some (.bool skip)) (exact HS3.out _ (by repeat (first | with_reducible exact Fr.refl _ _ | with_reducible refine Fr.drew ?_ | with_reducible refine Fr.trans ?_ hf5 (fun _ _ hh => hh)))) (first | (go_at_call 25; refine (HCt.out _ ((HF1.out.trans HF3.out (fun _ _ h => h)).drew)).mono ?_; rintro e w4 ⟨rfl, rfl⟩) | (go_at_call 24; refine (HFt'.out _).mono ?_; rintro e w5 ⟨rfl, hf5⟩))
    have HF5 : Hid (Fr (fun _ => False) wA w5) := HF3.out.drew.trans hf5 (fun _ _ h => h)
    clear hf5 p0 p1 p2 p3 p4
    go_wp2_with fail
    go_ret
    exact ⟨rfl, HF1.out.trans HF5.out (fun _ _ h => h)⟩

set_option linter.unusedSimpArgs false in
set_option maxRecDepth 100000 in
set_option maxHeartbeats 2000000 in
theorem gget_none (base x y ti : Int) (skip : Bool) (w : World) :
    Calls Try.prog 9 #[.pointer none, .int .i64 base, .int .i64 x, .int .i64 y, .int .i64 ti, .bool skip] w fun e w' => e = .returned (.tuple #[.agg #[.int .i64 0, .int .i64 0, .slice none 0 0], .int .i64 53]) ∧ Fr (fun _ => False) w w' := by
  have hb9 := heap_alloc_new w (.cells #[.int .i64 0, .int .i64 0, .slice none 0 0] 24)
  obtain ⟨x0, x1, x2, xf⟩ := cell_of_three (set3_cells hb9 (.int .i64 0) (.int .i64 0) (.slice none 0 0))
  obtain ⟨u0, u1, u2, uf⟩ := cell_of_three hb9
  have HE : Hid (Fr (fun _ => False) w ((((w.alloc (.cells #[.int .i64 0, .int .i64 0, .slice none 0 0] 24)).setCell ⟨w.heap.size, 0, none⟩ (.int .i64 0)).setCell ⟨w.heap.size, 1, none⟩ (.int .i64 0)).setCell ⟨w.heap.size, 2, none⟩ (.slice none 0 0))) := ((((Fr.refl (fun _ => False) w).alloc _).setCell (p := ⟨w.heap.size, 0, none⟩) (fun h => absurd h (Nat.lt_irrefl _)) _).setCell (p := ⟨w.heap.size, 1, none⟩) (fun h => absurd h (Nat.lt_irrefl _)) _).setCell (p := ⟨w.heap.size, 2, none⟩) (fun h => absurd h (Nat.lt_irrefl _)) _
  clear xf uf hb9
  go_enter Try.func9, Try.ntmps9
  go_wp2_with fail
  refine bodyPost_ret (v := .tuple #[.agg #[.int .i64 0, .int .i64 0, .slice none 0 0], .int .i64 53]) (by simp [results, Try.results9, go_sem, x0, x1, x2]) rfl ?_
  first | exact ⟨rfl, HE.out⟩ | exact ⟨rfl, (Fr.refl _ _).alloc _⟩

set_option maxRecDepth 100000 in
set_option maxHeartbeats 2000000 in
theorem gget_badT (bd : Nat) (base x y ti : Int) (skip : Bool) (w : World) (ht : ti < 0 ∨ 4 ≤ ti) :
    Calls Try.prog 9 #[.pointer (some ⟨bd, 0, none⟩), .int .i64 base, .int .i64 x, .int .i64 y, .int .i64 ti, .bool skip] w fun e w' => e = .returned (.tuple #[.agg #[.int .i64 0, .int .i64 0, .slice none 0 0], .int .i64 60]) ∧ Fr (fun _ => False) w w' := by
  have HNP : Hid (∀ w', Calls Try.prog 22 #[.int .i64 base, .int .i64 ti, .bool skip] w' fun e w'' => e = .returned (.tuple #[.agg #[.int .i64 0, .int .i64 0, .int .i64 0, .int .i64 0, .bool false], .int .i64 60]) ∧ Fr (fun _ => False) w' w'') := fun w' => newProc_bad base ti skip ht w'
  clear ht
  go_enter Try.func9, Try.ntmps9
  go_wp2_with fail
  refine (HNP.out _).mono ?_
  rintro e w1 ⟨rfl, hf1⟩
  have HF1 : Hid (Fr (fun _ => False) w (w1.alloc (.cells #[.int .i64 0, .int .i64 0, .int .i64 0, .int .i64 0, .bool false] 62))) := (((Fr.refl _ _).alloc _).trans hf1 (fun _ _ h => h)).alloc _
  have hb9 : (w1.alloc (.cells #[.int .i64 0, .int .i64 0, .int .i64 0, .int .i64 0, .bool false] 62)).heap[w.heap.size]? = some (.cells #[.int .i64 0, .int .i64 0, .slice none 0 0] 24 (0, 0)) := by
    refine blkUp ?_ _
    rw [hf1.block _ (by simp) (fun h => h)]; exact heap_alloc_new w _
  clear hf1
  go_upto_region 4 with (fail)
  generalize w1.alloc (.cells #[.int .i64 0, .int .i64 0, .int .i64 0, .int .i64 0, .bool false] 62) = wA at *
  have hset := set3_cells hb9 (.int .i64 0) (.int .i64 0) (.slice none 0 0)
  have hf9 : Fr (fun k => k = w.heap.size) wA (((wA.setCell ⟨w.heap.size, 0, none⟩ (.int .i64 0)).setCell ⟨w.heap.size, 1, none⟩ (.int .i64 0)).setCell ⟨w.heap.size, 2, none⟩ (.slice none 0 0)) := (((Fr.refl (fun k => k = w.heap.size) wA).setCell (p := ⟨w.heap.size, 0, none⟩) (fun _ => rfl) _).setCell (p := ⟨w.heap.size, 1, none⟩) (fun _ => rfl) _).setCell (p := ⟨w.heap.size, 2, none⟩) (fun _ => rfl) _
  obtain ⟨w9, hw9⟩ : ∃ w9, w9 = (((wA.setCell ⟨w.heap.size, 0, none⟩ (.int .i64 0)).setCell ⟨w.heap.size, 1, none⟩ (.int .i64 0)).setCell ⟨w.heap.size, 2, none⟩ (.slice none 0 0)) := ⟨_, rfl⟩
  rw [← hw9] at hset hf9
  obtain ⟨x0, x1, x2, xf⟩ := cell_of_three hset
  have HW9 := (show Hid (w9 = (((wA.setCell ⟨w.heap.size, 0, none⟩ (.int .i64 0)).setCell ⟨w.heap.size, 1, none⟩ (.int .i64 0)).setCell ⟨w.heap.size, 2, none⟩ (.slice none 0 0))) from hw9)
  have HE : Hid (Fr (fun _ => False) w w9) := (HF1.out).trans hf9 (fun i hi e => by omega)
  obtain ⟨u0, u1, u2, uf⟩ := cell_of_three hb9
  clear hset hf9 xf hb9 hw9
  go_wp2_with fail
  rw [← HW9.out]
  refine bodyPost_ret (v := .tuple #[.agg #[.int .i64 0, .int .i64 0, .slice none 0 0], .int .i64 60]) (by simp [results, Try.results9, go_sem, x0, x1, x2]) rfl ?_
  exact ⟨rfl, HE.out⟩
set_option maxRecDepth 100000 in
set_option maxHeartbeats 2000000 in
theorem gget_badA (bd : Nat) (base : Int) (t : Nat) (x y : Int) (skip : Bool) (w : World) (ht : t < 4) (hx : -9223372036854775808 ≤ x ∧ x ≤ 9223372036854775807) (hy : -9223372036854775808 ≤ y ∧ y ≤ 9223372036854775807) (hs : sizeOK x y = false) :
    Calls Try.prog 9 #[.pointer (some ⟨bd, 0, none⟩), .int .i64 base, .int .i64 x, .int .i64 y, .int .i64 t, .bool skip] w fun e w' => e = .returned (.tuple #[.agg #[.int .i64 0, .int .i64 0, .slice none 0 0], .int .i64 63]) ∧ Fr (fun _ => False) w w' := by
  have HNo : Hid (∀ w', Calls Try.prog 28 #[.int .i64 x, .int .i64 y] w' fun e w'' => e = .returned (.tuple #[.pointer none, .int .i64 20]) ∧ Fr (fun _ => False) w' w'') := fun w' => (new_no x y w' hx hy hs).mono (fun e w2 ⟨h1, h2⟩ => ⟨h1, by rw [h2]; exact Fr.refl _ _⟩)
  have HNP : Hid (∀ w', Calls Try.prog 22 #[.int .i64 base, .int .i64 t, .bool skip] w' fun e w'' => e = .returned (.tuple #[procI base t skip, .int .i64 0]) ∧ Fr (fun _ => False) w' w'') := fun w' => newProc_ok base t skip ht w'
  unfold procI at *
  clear ht hx hy hs
  generalize sizeT t = Z at *
  generalize 2 ^ cntS t 2 - 1 = O at *
  go_enter Try.func9, Try.ntmps9
  go_wp2_with fail
  refine (HNP.out _).mono ?_
  rintro e w1 ⟨rfl, hf1⟩
  have hs1 : w.heap.size < w1.heap.size := by have := hf1.size; simp at this; omega
  have HF1 : Hid (Fr (fun _ => False) w (w1.alloc (.cells #[.int .i64 base, .int .i64 t, .int .i64 Z, .int .i64 O, .bool skip] 62))) := (((Fr.refl _ _).alloc _).trans hf1 (fun _ _ h => h)).alloc _
  have HBX : Hid (∀ w', Fr (fun _ => False) (w1.alloc (.cells #[.int .i64 base, .int .i64 t, .int .i64 Z, .int .i64 O, .bool skip] 62)) w' → w'.heap[w.heap.size]? = some (.cells #[.int .i64 0, .int .i64 0, .slice none 0 0] 24 (0, 0))) := fun w' f => by
    rw [f.block _ (by simp; omega) (fun h => h), Below.heap_alloc _ _ _ hs1, hf1.block _ (by simp) (fun h => h)]; exact heap_alloc_new w _
  clear hf1
  go_wp2_with fail
  generalize w1.alloc (.cells #[.int .i64 base, .int .i64 t, .int .i64 Z, .int .i64 O, .bool skip] 62) = wA at *
  refine (HNo.out _).mono ?_
  rintro e w3 ⟨rfl, hf3⟩
  have HF3 : Hid (Fr (fun _ => False) wA w3) := hf3
  clear hf3
  have hb9 := (HBX.out _ HF3.out)
  have hset := set3_cells hb9 (.int .i64 0) (.int .i64 0) (.slice none 0 0)
  have hf9 : Fr (fun k => k = w.heap.size) w3 (((w3.setCell ⟨w.heap.size, 0, none⟩ (.int .i64 0)).setCell ⟨w.heap.size, 1, none⟩ (.int .i64 0)).setCell ⟨w.heap.size, 2, none⟩ (.slice none 0 0)) := (((Fr.refl (fun k => k = w.heap.size) w3).setCell (p := ⟨w.heap.size, 0, none⟩) (fun _ => rfl) _).setCell (p := ⟨w.heap.size, 1, none⟩) (fun _ => rfl) _).setCell (p := ⟨w.heap.size, 2, none⟩) (fun _ => rfl) _
  obtain ⟨w9, hw9⟩ : ∃ w9, w9 = (((w3.setCell ⟨w.heap.size, 0, none⟩ (.int .i64 0)).setCell ⟨w.heap.size, 1, none⟩ (.int .i64 0)).setCell ⟨w.heap.size, 2, none⟩ (.slice none 0 0)) := ⟨_, rfl⟩
  rw [← hw9] at hset hf9
  obtain ⟨x0, x1, x2, xf⟩ := cell_of_three hset
  have HW9 := (show Hid (w9 = (((w3.setCell ⟨w.heap.size, 0, none⟩ (.int .i64 0)).setCell ⟨w.heap.size, 1, none⟩ (.int .i64 0)).setCell ⟨w.heap.size, 2, none⟩ (.slice none 0 0))) from hw9)
  have HE : Hid (Fr (fun _ => False) w w9) := (HF1.out.trans HF3.out (fun _ _ h => h)).trans hf9 (fun i hi e => by omega)
  obtain ⟨u0, u1, u2, uf⟩ := cell_of_three hb9
  clear hset hf9 xf hb9 hw9
  go_wp2_with fail
  rw [← HW9.out]
  refine bodyPost_ret (v := .tuple #[.agg #[.int .i64 0, .int .i64 0, .slice none 0 0], .int .i64 63]) (by simp [results, Try.results9, go_sem, x0, x1, x2]) rfl ?_
  exact ⟨rfl, HE.out⟩

set_option maxRecDepth 100000 in
set_option maxHeartbeats 4000000 in
theorem gget_base (bd nx : Nat) (base : Int) (t W H : Nat) (skip : Bool) (w : World) (hc : ∀ w', Fr (fun _ => False) w w' → Calls Try.prog 25 #[.pointer (some ⟨bd, 0, none⟩)] w' fun e w'' => e = .returned (.int .i64 (nx : Nat)) ∧ w'' = w') (hlim : nx ≤ 131072) (ht : t < 4) (h1 : 1 ≤ W) (h2 : 1 ≤ H) (h3 : W * H ≤ 1048576) (hbase : base < 0 ∨ (nx : Int) - ((sizeT t + 1 : Nat) : Int) < base) :
    Calls Try.prog 9 #[.pointer (some ⟨bd, 0, none⟩), .int .i64 base, .int .i64 W, .int .i64 H, .int .i64 t, .bool skip] w fun e w' => e = .returned (.tuple #[.agg #[.int .i64 0, .int .i64 0, .slice none 0 0], .int .i64 51]) ∧ Fr (fun _ => False) w w' := by
  have HYes : Hid (∀ w', Calls Try.prog 28 #[.int .i64 (W : Int), .int .i64 (H : Int)] w' fun e w'' => ∃ b, e = .returned (.tuple #[.pointer (some ⟨b, 0, none⟩), .int .i64 0]) ∧ Fr (fun _ => False) w' w'') := fun w' => by
    refine (new_yes W H w' h1 h2 h3).mono ?_
    rintro e w2 ⟨b, g, rfl, hn⟩
    exact ⟨b, rfl, hn.fr⟩
  have HNP : Hid (∀ w', Calls Try.prog 22 #[.int .i64 base, .int .i64 t, .bool skip] w' fun e w'' => e = .returned (.tuple #[procI base t skip, .int .i64 0]) ∧ Fr (fun _ => False) w' w'') := fun w' => newProc_ok base t skip ht w'
  have HFt : Hid (∀ w', Calls Try.prog 24 #[procI base t skip, .int .i64 (nx : Nat)] w' fun e w'' => e = .returned (.bool false) ∧ Fr (fun _ => False) w' w'') := fun w' => fits_no base t skip nx ht hlim hbase w'
  have HCt : Hid (∀ w', Fr (fun _ => False) w w' → Calls Try.prog 25 #[.pointer (some ⟨bd, 0, none⟩)] w' fun e w'' => e = .returned (.int .i64 (nx : Nat)) ∧ w'' = w') := hc
  unfold procI at *
  clear ht hc hlim hbase h1 h2 h3
  generalize sizeT t = Z at *
  generalize 2 ^ cntS t 2 - 1 = O at *
  go_enter Try.func9, Try.ntmps9
  go_wp2_with fail
  refine (HNP.out _).mono ?_
  rintro e w1 ⟨rfl, hf1⟩
  have hs1 : w.heap.size < w1.heap.size := by have := hf1.size; simp at this; omega
  have HF1 : Hid (Fr (fun _ => False) w (w1.alloc (.cells #[.int .i64 base, .int .i64 t, .int .i64 Z, .int .i64 O, .bool skip] 62))) := (((Fr.refl _ _).alloc _).trans hf1 (fun _ _ h => h)).alloc _
  have HBX : Hid (∀ w', Fr (fun _ => False) (w1.alloc (.cells #[.int .i64 base, .int .i64 t, .int .i64 Z, .int .i64 O, .bool skip] 62)) w' → w'.heap[w.heap.size]? = some (.cells #[.int .i64 0, .int .i64 0, .slice none 0 0] 24 (0, 0)) ∧ w'.heap[w1.heap.size]? = some (.cells #[.int .i64 base, .int .i64 t, .int .i64 Z, .int .i64 O, .bool skip] 62 (0, 0))) := fun w' f => by
    refine ⟨?_, ?_⟩
    · rw [f.block _ (by simp; omega) (fun h => h), Below.heap_alloc _ _ _ hs1, hf1.block _ (by simp) (fun h => h)]; exact heap_alloc_new w _
    · rw [f.block _ (by simp) (fun h => h)]; exact heap_alloc_new w1 _
  clear hf1
  go_wp2_with fail
  generalize hwA : w1.alloc (.cells #[.int .i64 base, .int .i64 t, .int .i64 Z, .int .i64 O, .bool skip] 62) = wA at *
  refine (HYes.out _).mono ?_
  rintro e w3 ⟨b, rfl, hf3⟩
  have HF3 : Hid (Fr (fun _ => False) wA w3) := hf3
  clear hf3 hwA
  have HS3 : Hid (∀ w', Fr (fun _ => False) w3 w' → w'.cell? ⟨w1.heap.size, 0, none⟩ = some (.int .i64 base) ∧ w'.cell? ⟨w1.heap.size, 1, none⟩ = some (.int .i64 t) ∧ w'.cell? ⟨w1.heap.size, 2, none⟩ = some (.int .i64 Z) ∧ w'.cell? ⟨w1.heap.size, 3, none⟩ = some (.int .i64 O) ∧ w'.cell? ⟨w1.heap.size, 4, none⟩ = some (.bool skip)) := fun w' f => by
    obtain ⟨p0, p1, p2, p3, p4, _⟩ := cell_of_five (HBX.out w' (HF3.out.trans f (fun _ _ h => h))).2
    exact ⟨p0, p1, p2, p3, p4⟩
  obtain ⟨p0, p1, p2, p3, p4⟩ := HS3.out w3 (Fr.refl _ _)
  go_wp2_with fail
  go_region_held3 (fun w' => w'.cell? ⟨w1.heap.size, 0, none⟩ = some (.int .i64 base) ∧ w'.cell? ⟨w1.heap.size, 1, none⟩ = some (.int .i64 t) ∧ w'.cell? ⟨w1.heap.size, 2, none⟩ = some (.int .i64 Z) ∧ w'.cell? ⟨w1.heap.size, 3, none⟩ = some (.int .i64 O) ∧ w'.cell? ⟨w1.heap.size, 4, none⟩ = some (.bool skip)) (exact HS3.out _ (by repeat (first | with_reducible exact Fr.refl _ _ | with_reducible refine Fr.drew ?_ | with_reducible refine Fr.trans ?_ hf5 (fun _ _ hh => hh)))) (first | (go_at_call 25; refine (HCt.out _ ((HF1.out.trans HF3.out (fun _ _ h => h)).drew)).mono ?_; rintro e w4 ⟨rfl, rfl⟩) | (go_at_call 24; refine (HFt.out _).mono ?_; rintro e w5 ⟨rfl, hf5⟩))
  have HF5 : Hid (Fr (fun _ => False) wA w5) := HF3.out.drew.trans hf5 (fun _ _ h => h)
  clear hf5 p0 p1 p2 p3 p4
  have hb9 := (HBX.out _ HF5.out).1
  have hset := set3_cells hb9 (.int .i64 0) (.int .i64 0) (.slice none 0 0)
  have hf9 : Fr (fun k => k = w.heap.size) w5 (((w5.setCell ⟨w.heap.size, 0, none⟩ (.int .i64 0)).setCell ⟨w.heap.size, 1, none⟩ (.int .i64 0)).setCell ⟨w.heap.size, 2, none⟩ (.slice none 0 0)) := (((Fr.refl (fun k => k = w.heap.size) w5).setCell (p := ⟨w.heap.size, 0, none⟩) (fun _ => rfl) _).setCell (p := ⟨w.heap.size, 1, none⟩) (fun _ => rfl) _).setCell (p := ⟨w.heap.size, 2, none⟩) (fun _ => rfl) _
  obtain ⟨w9, hw9⟩ : ∃ w9, w9 = (((w5.setCell ⟨w.heap.size, 0, none⟩ (.int .i64 0)).setCell ⟨w.heap.size, 1, none⟩ (.int .i64 0)).setCell ⟨w.heap.size, 2, none⟩ (.slice none 0 0)) := ⟨_, rfl⟩
  rw [← hw9] at hset hf9
  obtain ⟨x0, x1, x2, xf⟩ := cell_of_three hset
  have HW9 := (show Hid (w9 = (((w5.setCell ⟨w.heap.size, 0, none⟩ (.int .i64 0)).setCell ⟨w.heap.size, 1, none⟩ (.int .i64 0)).setCell ⟨w.heap.size, 2, none⟩ (.slice none 0 0))) from hw9)
  have HE : Hid (Fr (fun _ => False) w w9) := (HF1.out.trans HF5.out (fun _ _ h => h)).trans hf9 (fun i hi e => by omega)
  obtain ⟨u0, u1, u2, uf⟩ := cell_of_three hb9
  clear hset hf9 xf hb9 hw9
  go_wp2_with fail
  rw [← HW9.out]
  refine bodyPost_ret (v := .tuple #[.agg #[.int .i64 0, .int .i64 0, .slice none 0 0], .int .i64 51]) (by simp [results, Try.results9, go_sem, x0, x1, x2]) rfl ?_
  exact ⟨rfl, HE.out⟩

end Go.Proofs.Ytkggdnkmaldmlab
