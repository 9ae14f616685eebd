/- Package refine: what Put and Get refuse. -/
import Derived.Test.YtmfpoabhmpljgabK23
namespace Go.Proofs.Ytmfpoabhmpljgab
open Go.RowKit

/-- A bitmap as it is handed in. -/
structure MpT (w : World) (x y : Int) (v : Value) (l : List Nat) : Prop where
  hx : -9223372036854775808 ≤ x ∧ x ≤ 9223372036854775807
  hy : -9223372036854775808 ≤ y ∧ y ≤ 9223372036854775807
  hv : Seen w v l
  hlt : ∀ j : Nat, l[j]?.getD 0 < 18446744073709551616
theorem MpT.kept {w w' : World} {x y : Int} {v : Value} {l : List Nat} (h : MpT w x y v l) (f : Fr (fun _ => False) w w') : MpT w' x y v l := ⟨h.hx, h.hy, h.hv.kept f, h.hlt⟩
theorem MpT.check {w : World} {x y : Int} {v : Value} {l : List Nat} (h : MpT w x y v l) : Calls Try.prog 16 #[.agg #[.int .i64 x, .int .i64 y, v]] w fun e w' => e = .returned (.bool (validB x y l)) ∧ Fr (fun _ => False) w w' := check_any x y v l w h.hx h.hy h.hv h.hlt

set_option maxRecDepth 100000 in
set_option maxHeartbeats 1000000 in
theorem fits_no (base : Int) (n : Nat) (w : World) (h : base < 0 ∨ (n : Int) - 8192 < base) (hn : n ≤ 131072) : Calls Try.prog 18 #[.int .i64 base, .int .i64 n] w fun e w' => e = .returned (.bool false) ∧ w' = w := by
  have g1 : IntKind.i64.wrap ((n : Int) - 8192) = (n : Int) - 8192 := by rw [IntKind.wrap_i64]; omega
  by_cases h0 : base < 0
  · have d0 : decide ((0 : Int) ≤ base) = false := decide_eq_false (by omega)
    go_enter Try.func18, Try.ntmps18
    go_wp2_with fail
    go_ret
    simp
  · have d0 : decide ((0 : Int) ≤ base) = true := decide_eq_true (by omega)
    have d1 : decide (base ≤ (n : Int) - 8192) = false := decide_eq_false (by omega)
    go_enter Try.func18, Try.ntmps18
    go_wp2_with fail
    go_ret
    simp

set_option maxRecDepth 100000 in
set_option maxHeartbeats 2000000 in
theorem put_none (base x y : Int) (ao : Option Addr) (n0 cv : Nat) (rx ry : Int) (ar : Option Addr) (n1 cr : Nat) (dx dy : Int) (w : World) :
    Calls Try.prog 7 #[.pointer none, .int .i64 base, .agg #[.int .i64 x, .int .i64 y, .slice ao n0 cv], .agg #[.int .i64 rx, .int .i64 ry, .slice ar n1 cr], .int .i64 dx, .int .i64 dy] w fun e w' => e = .returned (.int .i64 53) ∧ Fr (fun _ => False) w w' := by
  go_enter Try.func7, Try.ntmps7
  go_wp2_with fail
  go_ret
  exact ⟨rfl, (((Fr.refl _ _).alloc _).alloc _).alloc _ |>.alloc _⟩

set_option maxRecDepth 100000 in
set_option maxHeartbeats 4000000 in
theorem put_refused (bc gc cc gb cb : Nat) (o : Co) (base : Int) (x y : Int) (v : Value) (l : List Nat) (rx ry : Int) (rv : Value) (rl : List Nat) (dx dy : Int) (w : World) (hc : CoAt w bc gc cc gb cb o) (hok : Ook o) (hb : MpT w x y v l) (hr : MpT w rx ry rv rl) (er : Int)
    (he : er = if validB x y l && validB rx ry rl then (if mayS dx dy then 51 else 70) else 62) (hbase : er = 51 → base < 0 ∨ (o.x.length : Int) - 8192 < base) :
    Calls Try.prog 7 #[.pointer (some ⟨bc, 0, none⟩), .int .i64 base, .agg #[.int .i64 x, .int .i64 y, v], .agg #[.int .i64 rx, .int .i64 ry, rv], .int .i64 dx, .int .i64 dy] w fun e w' => e = .returned (.int .i64 er) ∧ Fr (fun _ => False) w w' := by
  have HCk : Hid (∀ w', Fr (fun _ => False) w w' → Calls Try.prog 16 #[.agg #[.int .i64 x, .int .i64 y, v]] w' fun e w'' => e = .returned (.bool (validB x y l)) ∧ Fr (fun _ => False) w' w'') := fun w' f => (hb.kept f).check
  have HCr : Hid (∀ w', Fr (fun _ => False) w w' → Calls Try.prog 16 #[.agg #[.int .i64 rx, .int .i64 ry, rv]] w' fun e w'' => e = .returned (.bool (validB rx ry rl)) ∧ Fr (fun _ => False) w' w'') := fun w' f => (hr.kept f).check
  have HMy : Hid (∀ w', Calls Try.prog 17 #[.int .i64 dx, .int .i64 dy] w' fun e w'' => e = .returned (.bool (mayS dx dy)) ∧ w'' = w') := fun w' => mayShift_any dx dy w'
  have hlim := hok.lim
  have HFt : Hid (er = 51 → ∀ w', Calls Try.prog 18 #[.int .i64 base, .int .i64 (o.x.length : Nat)] w' fun e w'' => e = .returned (.bool false) ∧ w'' = w') := fun h w' => fits_no base _ w' (hbase h) hlim
  have HCt : Hid (∀ w', Fr (fun _ => False) w w' → Calls Try.prog 19 #[.pointer (some ⟨bc, 0, none⟩)] w' fun e w'' => e = .returned (.int .i64 (o.x.length : Nat)) ∧ w'' = w') := fun w' f => by
    obtain ⟨e0, _⟩ := cell_of_seven (hc.kept f (fun x => x) (fun x => x) (fun x => x)).blk
    exact contexts_at w' bc gc cc _ e0 hlim
  obtain ⟨ao, cv, hvv, -, -⟩ := hb.hv
  obtain ⟨ar, cr, hvr, -, -⟩ := hr.hv
  generalize l.length = n0 at *
  generalize rl.length = n1 at *
  subst hvv
  subst hvr
  generalize validB x y l = b1 at *
  generalize validB rx ry rl = b2 at *
  generalize mayS dx dy = b3 at *
  generalize o.x.length = X at *
  clear hb hr hc hok hbase hlim
  have HA : Hid (Fr (fun _ => False) w ((((w.alloc (.cells #[.pointer (some ⟨bc, 0, none⟩)] 26)).alloc (.cells #[.int .i64 base] 3)).alloc (.cells #[.int .i64 x, .int .i64 y, .slice ao n0 cv] 24)).alloc (.cells #[.int .i64 rx, .int .i64 ry, .slice ar n1 cr] 24))) := ((((Fr.refl _ _).alloc _).alloc _).alloc _).alloc _
  have HBX : Hid (∀ w', Fr (fun _ => False) ((((w.alloc (.cells #[.pointer (some ⟨bc, 0, none⟩)] 26)).alloc (.cells #[.int .i64 base] 3)).alloc (.cells #[.int .i64 x, .int .i64 y, .slice ao n0 cv] 24)).alloc (.cells #[.int .i64 rx, .int .i64 ry, .slice ar n1 cr] 24)) w' → w'.heap[w.heap.size]? = some (.cells #[.pointer (some ⟨bc, 0, none⟩)] 26 (0, 0)) ∧ w'.heap[w.heap.size + 1]? = some (.cells #[.int .i64 base] 3 (0, 0)) ∧ w'.heap[w.heap.size + 1 + 1 + 1]? = some (.cells #[.int .i64 rx, .int .i64 ry, .slice ar n1 cr] 24 (0, 0))) := fun w' f => by
    have q4 := heap_alloc_new (((w.alloc (.cells #[.pointer (some ⟨bc, 0, none⟩)] 26)).alloc (.cells #[.int .i64 base] 3)).alloc (.cells #[.int .i64 x, .int .i64 y, .slice ao n0 cv] 24)) (.cells #[.int .i64 rx, .int .i64 ry, .slice ar n1 cr] 24)
    have q2 := heap_alloc_new (w.alloc (.cells #[.pointer (some ⟨bc, 0, none⟩)] 26)) (.cells #[.int .i64 base] 3)
    have q1 := heap_alloc_new w (.cells #[.pointer (some ⟨bc, 0, none⟩)] 26)
    simp only [World.size_alloc] at q1 q2 q4
    exact ⟨blkOld f (blkUp (blkUp (blkUp q1 _) _) _), blkOld f (blkUp (blkUp q2 _) _), blkOld f q4⟩
  cases b1
  · simp only [Bool.false_and, Bool.false_eq_true, if_false] at he
    subst he
    go_enter Try.func7, Try.ntmps7
    go_wp2_with fail
    refine (HCk.out _ HA.out).mono ?_
    rintro e w5 ⟨rfl, hf5⟩
    have HF5 : Hid (Fr (fun _ => False) w w5) := HA.out.trans hf5 (fun _ _ h => h)
    clear hf5
    go_wp2_with fail
    go_ret
    exact ⟨rfl, HF5.out⟩
  · cases b2
    · simp only [Bool.true_and, Bool.false_eq_true, if_false] at he
      subst he
      go_enter Try.func7, Try.ntmps7
      go_wp2_with fail
      refine (HCk.out _ HA.out).mono ?_
      rintro e w5 ⟨rfl, hf5⟩
      have HF5 : Hid (Fr (fun _ => False) w w5) := HA.out.trans hf5 (fun _ _ h => h)
      obtain ⟨q0, q1, q2, qf⟩ := cell_of_three (HBX.out _ hf5).2.2
      clear hf5
      go_wp2_with fail
      refine (HCr.out _ HF5.out).mono ?_
      rintro e w6 ⟨rfl, hf6⟩
      have HF6 : Hid (Fr (fun _ => False) w w6) := HF5.out.trans hf6 (fun _ _ h => h)
      clear hf6 q0 q1 q2 qf
      go_wp2_with fail
      go_ret
      exact ⟨rfl, HF6.out⟩
    · cases b3
      · simp only [Bool.true_and, Bool.false_eq_true, if_false, if_true] at he
        subst he
        go_enter Try.func7, Try.ntmps7
        go_wp2_with fail
        refine (HCk.out _ HA.out).mono ?_
        rintro e w5 ⟨rfl, hf5⟩
        have HF5 : Hid (Fr (fun _ => False) w w5) := HA.out.trans hf5 (fun _ _ h => h)
        obtain ⟨q0, q1, q2, qf⟩ := cell_of_three (HBX.out _ hf5).2.2
        clear hf5
        go_wp2_with fail
        refine (HCr.out _ HF5.out).mono ?_
        rintro e w6 ⟨rfl, hf6⟩
        have HF6 : Hid (Fr (fun _ => False) w w6) := HF5.out.trans hf6 (fun _ _ h => h)
        clear hf6 q0 q1 q2 qf
        go_wp2_with fail
        refine (HMy.out _).mono ?_
        rintro e w6 ⟨rfl, rfl⟩
        go_wp2_with fail
        go_ret
        exact ⟨rfl, HF6.out⟩
      · simp only [Bool.true_and, if_true] at he
        subst he
        have HFt' : Hid (∀ w', Calls Try.prog 18 #[.int .i64 base, .int .i64 (X : Nat)] w' fun e w'' => e = .returned (.bool false) ∧ w'' = w') := HFt.out rfl
        go_enter Try.func7, Try.ntmps7
        go_wp2_with fail
        generalize ((((w.alloc (.cells #[.pointer (some ⟨bc, 0, none⟩)] 26)).alloc (.cells #[.int .i64 base] 3)).alloc (.cells #[.int .i64 x, .int .i64 y, .slice ao n0 cv] 24)).alloc (.cells #[.int .i64 rx, .int .i64 ry, .slice ar n1 cr] 24)) = w4 at *
        refine (HCk.out _ HA.out).mono ?_
        rintro e w5 ⟨rfl, hf5⟩
        have HF5 : Hid (Fr (fun _ => False) w4 w5) := hf5
        obtain ⟨q0, q1, q2, qf⟩ := cell_of_three (HBX.out _ hf5).2.2
        clear hf5
        go_wp2_with fail
        refine (HCr.out _ (HA.out.trans HF5.out (fun _ _ h => h))).mono ?_
        rintro e w6 ⟨rfl, hf6⟩
        have HF6 : Hid (Fr (fun _ => False) w4 w6) := HF5.out.trans hf6 (fun _ _ h => h)
        clear hf6 q0 q1 q2 qf
        go_wp2_with fail
        refine (HMy.out _).mono ?_
        rintro e w6 ⟨rfl, rfl⟩
        have HS6 : Hid (∀ w', Fr (fun _ => False) w6 w' → w'.cell? ⟨w.heap.size, 0, none⟩ = some (.pointer (some ⟨bc, 0, none⟩)) ∧ w'.cell? ⟨w.heap.size + 1, 0, none⟩ = some (.int .i64 base)) := fun w' f => by
          obtain ⟨b0, b1, _⟩ := HBX.out _ (HF6.out.trans f (fun _ _ h => h))
          exact ⟨cell_of_one b0, cell_of_one b1⟩
        obtain ⟨k0, k1⟩ := HS6.out _ (Fr.refl _ _)
        go_wp2_with fail
        go_region_held3 (fun w' => w'.cell? ⟨w.heap.size, 0, none⟩ = some (.pointer (some ⟨bc, 0, none⟩)) ∧ w'.cell? ⟨w.heap.size + 1, 0, none⟩ = some (.int .i64 base)) (exact HS6.out _ (by repeat (first | with_reducible exact Fr.refl _ _ | with_reducible refine Fr.drew ?_))) (first | (go_at_call 19; refine (HCt.out _ ((HA.out.trans HF6.out (fun _ _ h => h)).drew)).mono ?_; rintro e u4 ⟨rfl, rfl⟩) | (go_at_call 18; refine (HFt'.out _).mono ?_; rintro e u5 ⟨rfl, rfl⟩))
        have HF7 : Hid (Fr (fun _ => False) w w6.drew) := (HA.out.trans HF6.out (fun _ _ h => h)).drew
        clear k0 k1
        go_wp2_with fail
        go_ret
        exact ⟨rfl, HF7.out⟩

set_option maxRecDepth 100000 in
set_option maxHeartbeats 2000000 in
theorem get_none (base x y : Int) (rx ry : Int) (ar : Option Addr) (n1 cr : Nat) (dx dy : Int) (w : World) :
    Calls Try.prog 8 #[.pointer none, .int .i64 base, .int .i64 x, .int .i64 y, .agg #[.int .i64 rx, .int .i64 ry, .slice ar n1 cr], .int .i64 dx, .int .i64 dy] w fun e w' => e = .returned (.tuple #[.agg #[.int .i64 0, .int .i64 0, .slice none 0 0], .int .i64 53]) ∧ Fr (fun _ => False) w w' := by
  go_enter Try.func8, Try.ntmps8
  go_wp2_with fail
  have q4 := heap_alloc_new (((w.alloc (.cells #[.pointer none] 30)).alloc (.cells #[.int .i64 base] 3)).alloc (.cells #[.int .i64 rx, .int .i64 ry, .slice ar n1 cr] 24)) (.cells #[.int .i64 0, .int .i64 0, .slice none 0 0] 24)
  simp only [World.size_alloc] at q4
  obtain ⟨x0, x1, x2, xf⟩ := cell_of_three q4
  refine bodyPost_ret (v := .tuple #[.agg #[.int .i64 0, .int .i64 0, .slice none 0 0], .int .i64 53]) (by simp [results, Try.results8, go_sem, x0, x1, x2]) rfl ?_
  exact ⟨rfl, (((Fr.refl _ _).alloc _).alloc _).alloc _ |>.alloc _⟩

set_option maxRecDepth 100000 in
set_option maxHeartbeats 4000000 in
theorem get_refused (bd gc cc : Nat) (vb : Value) (B : List Nat) (d : De) (base : Int) (x y : Int) (rx ry : Int) (rv : Value) (rl : List Nat) (dx dy : Int) (w : World) (hd : DeAt w bd gc cc vb B d) (hok : Eok B d) (hx : -9223372036854775808 ≤ x ∧ x ≤ 9223372036854775807) (hy : -9223372036854775808 ≤ y ∧ y ≤ 9223372036854775807) (hr : MpT w rx ry rv rl) (er : Int)
    (he : er = if validB rx ry rl then (if sizeOK x y then (if mayS dx dy then 51 else 70) else 63) else 62) (hbase : er = 51 → base < 0 ∨ (d.x.length : Int) - 8192 < base) :
    Calls Try.prog 8 #[.pointer (some ⟨bd, 0, none⟩), .int .i64 base, .int .i64 x, .int .i64 y, .agg #[.int .i64 rx, .int .i64 ry, rv], .int .i64 dx, .int .i64 dy] w fun e w' => e = .returned (.tuple #[.agg #[.int .i64 0, .int .i64 0, .slice none 0 0], .int .i64 er]) ∧ Fr (fun _ => False) w w' := by
  have HCr : Hid (∀ w', Fr (fun _ => False) w w' → Calls Try.prog 16 #[.agg #[.int .i64 rx, .int .i64 ry, rv]] w' fun e w'' => e = .returned (.bool (validB rx ry rl)) ∧ Fr (fun _ => False) w' w'') := fun w' f => (hr.kept f).check
  have HNo : Hid (sizeOK x y = false → ∀ w', Calls Try.prog 25 #[.int .i64 x, .int .i64 y] w' fun e w'' => e = .returned (.tuple #[.pointer none, .int .i64 20]) ∧ Fr (fun _ => False) w' w'') := fun h w' => (new_no x y w' hx hy h).mono (fun e w2 ⟨h1, h2⟩ => ⟨h1, by rw [h2]; exact Fr.refl _ _⟩)
  have HYes : Hid (sizeOK x y = true → ∀ w', Calls Try.prog 25 #[.int .i64 x, .int .i64 y] w' fun e w'' => ∃ b, e = .returned (.tuple #[.pointer (some ⟨b, 0, none⟩), .int .i64 0]) ∧ Fr (fun _ => False) w' w'') := fun h w' => by
    unfold sizeOK at h
    obtain ⟨s1, s2, s3⟩ := of_decide_eq_true h
    obtain ⟨W, rfl⟩ : ∃ W : Nat, x = W := ⟨x.toNat, by omega⟩
    obtain ⟨H, rfl⟩ : ∃ H : Nat, y = H := ⟨y.toNat, by omega⟩
    rw [← Int.natCast_mul] at s3
    refine (new_yes W H w' (by omega) (by omega) (by omega)).mono ?_
    rintro e w2 ⟨b, g, rfl, hn⟩
    exact ⟨b, rfl, hn.fr⟩
  have HMy : Hid (∀ w', Calls Try.prog 17 #[.int .i64 dx, .int .i64 dy] w' fun e w'' => e = .returned (.bool (mayS dx dy)) ∧ w'' = w') := fun w' => mayShift_any dx dy w'
  have hlim := hok.lim
  have HFt : Hid (er = 51 → ∀ w', Calls Try.prog 18 #[.int .i64 base, .int .i64 (d.x.length : Nat)] w' fun e w'' => e = .returned (.bool false) ∧ w'' = w') := fun h w' => fits_no base _ w' (hbase h) hlim
  have HCt : Hid (∀ w', Fr (fun _ => False) w w' → Calls Try.prog 19 #[.pointer (some ⟨bd, 0, none⟩)] w' fun e w'' => e = .returned (.int .i64 (d.x.length : Nat)) ∧ w'' = w') := fun w' f => by
    obtain ⟨e0, _⟩ := cell_of_seven (hd.keptAll f).blk
    exact contexts_at w' bd gc cc _ e0 hlim
  obtain ⟨ar, cr, hvr, -, -⟩ := hr.hv
  generalize rl.length = n1 at *
  subst hvr
  generalize validB rx ry rl = b1 at *
  generalize sizeOK x y = b2 at *
  generalize mayS dx dy = b3 at *
  generalize d.x.length = X at *
  clear hr hd hok hbase hlim hx hy
  have HA : Hid (Fr (fun _ => False) w ((((w.alloc (.cells #[.pointer (some ⟨bd, 0, none⟩)] 30)).alloc (.cells #[.int .i64 base] 3)).alloc (.cells #[.int .i64 rx, .int .i64 ry, .slice ar n1 cr] 24)).alloc (.cells #[.int .i64 0, .int .i64 0, .slice none 0 0] 24))) := ((((Fr.refl _ _).alloc _).alloc _).alloc _).alloc _
  have HBX : Hid (∀ w', Fr (fun _ => False) ((((w.alloc (.cells #[.pointer (some ⟨bd, 0, none⟩)] 30)).alloc (.cells #[.int .i64 base] 3)).alloc (.cells #[.int .i64 rx, .int .i64 ry, .slice ar n1 cr] 24)).alloc (.cells #[.int .i64 0, .int .i64 0, .slice none 0 0] 24)) w' → w'.heap[w.heap.size]? = some (.cells #[.pointer (some ⟨bd, 0, none⟩)] 30 (0, 0)) ∧ w'.heap[w.heap.size + 1]? = some (.cells #[.int .i64 base] 3 (0, 0)) ∧ w'.heap[w.heap.size + 1 + 1 + 1]? = some (.cells #[.int .i64 0, .int .i64 0, .slice none 0 0] 24 (0, 0))) := fun w' f => by
    have q4 := heap_alloc_new (((w.alloc (.cells #[.pointer (some ⟨bd, 0, none⟩)] 30)).alloc (.cells #[.int .i64 base] 3)).alloc (.cells #[.int .i64 rx, .int .i64 ry, .slice ar n1 cr] 24)) (.cells #[.int .i64 0, .int .i64 0, .slice none 0 0] 24)
    have q2 := heap_alloc_new (w.alloc (.cells #[.pointer (some ⟨bd, 0, none⟩)] 30)) (.cells #[.int .i64 base] 3)
    have q1 := heap_alloc_new w (.cells #[.pointer (some ⟨bd, 0, none⟩)] 30)
    simp only [World.size_alloc] at q1 q2 q4
    exact ⟨blkOld f (blkUp (blkUp (blkUp q1 _) _) _), blkOld f (blkUp (blkUp q2 _) _), blkOld f q4⟩
  go_enter Try.func8, Try.ntmps8
  go_wp2_with fail
  generalize ((((w.alloc (.cells #[.pointer (some ⟨bd, 0, none⟩)] 30)).alloc (.cells #[.int .i64 base] 3)).alloc (.cells #[.int .i64 rx, .int .i64 ry, .slice ar n1 cr] 24)).alloc (.cells #[.int .i64 0, .int .i64 0, .slice none 0 0] 24)) = w4 at *
  refine (HCr.out _ HA.out).mono ?_
  rintro e w5 ⟨rfl, hf5⟩
  have HF5 : Hid (Fr (fun _ => False) w4 w5) := hf5
  clear hf5
  cases b1
  · simp only [Bool.false_eq_true, if_false] at he
    subst he
    have hb9 := (HBX.out _ HF5.out).2.2
    have hset := set3_cells hb9 (.int .i64 0) (.int .i64 0) (.slice none 0 0)
    have hf9 : Fr (fun k => k = w.heap.size + 1 + 1 + 1) w5 (((w5.setCell ⟨w.heap.size + 1 + 1 + 1, 0, none⟩ (.int .i64 0)).setCell ⟨w.heap.size + 1 + 1 + 1, 1, none⟩ (.int .i64 0)).setCell ⟨w.heap.size + 1 + 1 + 1, 2, none⟩ (.slice none 0 0)) := (((Fr.refl (fun k => k = w.heap.size + 1 + 1 + 1) w5).setCell (p := ⟨w.heap.size + 1 + 1 + 1, 0, none⟩) (fun _ => rfl) _).setCell (p := ⟨w.heap.size + 1 + 1 + 1, 1, none⟩) (fun _ => rfl) _).setCell (p := ⟨w.heap.size + 1 + 1 + 1, 2, none⟩) (fun _ => rfl) _
    obtain ⟨w9, hw9⟩ : ∃ w9, w9 = ((w5.setCell ⟨w.heap.size + 1 + 1 + 1, 0, none⟩ (.int .i64 0)).setCell ⟨w.heap.size + 1 + 1 + 1, 1, none⟩ (.int .i64 0)).setCell ⟨w.heap.size + 1 + 1 + 1, 2, none⟩ (.slice none 0 0) := ⟨_, rfl⟩
    rw [← hw9] at hset hf9
    obtain ⟨x0, x1, x2, xf⟩ := cell_of_three hset
    have HW9 := (show Hid (w9 = ((w5.setCell ⟨w.heap.size + 1 + 1 + 1, 0, none⟩ (.int .i64 0)).setCell ⟨w.heap.size + 1 + 1 + 1, 1, none⟩ (.int .i64 0)).setCell ⟨w.heap.size + 1 + 1 + 1, 2, none⟩ (.slice none 0 0)) from hw9)
    have HE : Hid (Fr (fun _ => False) w w9) := (HA.out.trans HF5.out (fun _ _ h => h)).trans hf9 (fun i hi e => by omega)
    obtain ⟨u0, u1, u2, uf⟩ := cell_of_three hb9
    clear hset hf9 xf hb9 hw9
    go_wp2_with fail
    rw [← HW9.out]
    refine bodyPost_ret (v := .tuple #[.agg #[.int .i64 0, .int .i64 0, .slice none 0 0], .int .i64 62]) (by simp [results, Try.results8, go_sem, x0, x1, x2]) rfl ?_
    exact ⟨rfl, HE.out⟩
  · cases b2
    · simp only [Bool.false_eq_true, if_false, if_true] at he
      subst he
      have HN := HNo.out rfl
      have HN' : Hid (∀ w', Calls Try.prog 25 #[.int .i64 x, .int .i64 y] w' fun e w'' => e = .returned (.tuple #[.pointer none, .int .i64 20]) ∧ Fr (fun _ => False) w' w'') := HN
      clear HN HNo HYes
      go_wp2_with fail
      refine (HN'.out _).mono ?_
      rintro e w6 ⟨rfl, hf6⟩
      have HF6 : Hid (Fr (fun _ => False) w4 w6) := HF5.out.trans hf6 (fun _ _ h => h)
      clear hf6
      have hb9 := (HBX.out _ HF6.out).2.2
      have hset := set3_cells hb9 (.int .i64 0) (.int .i64 0) (.slice none 0 0)
      have hf9 : Fr (fun k => k = w.heap.size + 1 + 1 + 1) w6 (((w6.setCell ⟨w.heap.size + 1 + 1 + 1, 0, none⟩ (.int .i64 0)).setCell ⟨w.heap.size + 1 + 1 + 1, 1, none⟩ (.int .i64 0)).setCell ⟨w.heap.size + 1 + 1 + 1, 2, none⟩ (.slice none 0 0)) := (((Fr.refl (fun k => k = w.heap.size + 1 + 1 + 1) w6).setCell (p := ⟨w.heap.size + 1 + 1 + 1, 0, none⟩) (fun _ => rfl) _).setCell (p := ⟨w.heap.size + 1 + 1 + 1, 1, none⟩) (fun _ => rfl) _).setCell (p := ⟨w.heap.size + 1 + 1 + 1, 2, none⟩) (fun _ => rfl) _
      obtain ⟨w9, hw9⟩ : ∃ w9, w9 = ((w6.setCell ⟨w.heap.size + 1 + 1 + 1, 0, none⟩ (.int .i64 0)).setCell ⟨w.heap.size + 1 + 1 + 1, 1, none⟩ (.int .i64 0)).setCell ⟨w.heap.size + 1 + 1 + 1, 2, none⟩ (.slice none 0 0) := ⟨_, rfl⟩
      rw [← hw9] at hset hf9
      obtain ⟨x0, x1, x2, xf⟩ := cell_of_three hset
      have HW9 := (show Hid (w9 = ((w6.setCell ⟨w.heap.size + 1 + 1 + 1, 0, none⟩ (.int .i64 0)).setCell ⟨w.heap.size + 1 + 1 + 1, 1, none⟩ (.int .i64 0)).setCell ⟨w.heap.size + 1 + 1 + 1, 2, none⟩ (.slice none 0 0)) from hw9)
      have HE : Hid (Fr (fun _ => False) w w9) := (HA.out.trans HF6.out (fun _ _ h => h)).trans hf9 (fun i hi e => by omega)
      obtain ⟨u0, u1, u2, uf⟩ := cell_of_three hb9
      clear hset hf9 xf hb9 hw9
      go_wp2_with fail
      rw [← HW9.out]
      refine bodyPost_ret (v := .tuple #[.agg #[.int .i64 0, .int .i64 0, .slice none 0 0], .int .i64 63]) (by simp [results, Try.results8, go_sem, x0, x1, x2]) rfl ?_
      exact ⟨rfl, HE.out⟩
    · have HN := HYes.out rfl
      have HN' : Hid (∀ w', Calls Try.prog 25 #[.int .i64 x, .int .i64 y] w' fun e w'' => ∃ b, e = .returned (.tuple #[.pointer (some ⟨b, 0, none⟩), .int .i64 0]) ∧ Fr (fun _ => False) w' w'') := HN
      clear HN HNo HYes
      go_wp2_with fail
      refine (HN'.out _).mono ?_
      rintro e w6 ⟨bm, rfl, hf6⟩
      have HF6 : Hid (Fr (fun _ => False) w4 w6) := HF5.out.trans hf6 (fun _ _ h => h)
      clear hf6
      go_wp2_with fail
      refine (HMy.out _).mono ?_
      rintro e w6 ⟨rfl, rfl⟩
      cases b3
      · simp only [Bool.false_eq_true, if_false, if_true] at he
        subst he
        have hb9 := (HBX.out _ HF6.out).2.2
        have hset := set3_cells hb9 (.int .i64 0) (.int .i64 0) (.slice none 0 0)
        have hf9 : Fr (fun k => k = w.heap.size + 1 + 1 + 1) w6 (((w6.setCell ⟨w.heap.size + 1 + 1 + 1, 0, none⟩ (.int .i64 0)).setCell ⟨w.heap.size + 1 + 1 + 1, 1, none⟩ (.int .i64 0)).setCell ⟨w.heap.size + 1 + 1 + 1, 2, none⟩ (.slice none 0 0)) := (((Fr.refl (fun k => k = w.heap.size + 1 + 1 + 1) w6).setCell (p := ⟨w.heap.size + 1 + 1 + 1, 0, none⟩) (fun _ => rfl) _).setCell (p := ⟨w.heap.size + 1 + 1 + 1, 1, none⟩) (fun _ => rfl) _).setCell (p := ⟨w.heap.size + 1 + 1 + 1, 2, none⟩) (fun _ => rfl) _
        obtain ⟨w9, hw9⟩ : ∃ w9, w9 = ((w6.setCell ⟨w.heap.size + 1 + 1 + 1, 0, none⟩ (.int .i64 0)).setCell ⟨w.heap.size + 1 + 1 + 1, 1, none⟩ (.int .i64 0)).setCell ⟨w.heap.size + 1 + 1 + 1, 2, none⟩ (.slice none 0 0) := ⟨_, rfl⟩
        rw [← hw9] at hset hf9
        obtain ⟨x0, x1, x2, xf⟩ := cell_of_three hset
        have HW9 := (show Hid (w9 = ((w6.setCell ⟨w.heap.size + 1 + 1 + 1, 0, none⟩ (.int .i64 0)).setCell ⟨w.heap.size + 1 + 1 + 1, 1, none⟩ (.int .i64 0)).setCell ⟨w.heap.size + 1 + 1 + 1, 2, none⟩ (.slice none 0 0)) from hw9)
        have HE : Hid (Fr (fun _ => False) w w9) := (HA.out.trans HF6.out (fun _ _ h => h)).trans hf9 (fun i hi e => by omega)
        obtain ⟨u0, u1, u2, uf⟩ := cell_of_three hb9
        clear hset hf9 xf hb9 hw9
        go_wp2_with fail
        rw [← HW9.out]
        refine bodyPost_ret (v := .tuple #[.agg #[.int .i64 0, .int .i64 0, .slice none 0 0], .int .i64 70]) (by simp [results, Try.results8, go_sem, x0, x1, x2]) rfl ?_
        exact ⟨rfl, HE.out⟩
      · simp only [if_true] at he
        subst he
        have HFt' : Hid (∀ w', Calls Try.prog 18 #[.int .i64 base, .int .i64 (X : Nat)] w' fun e w'' => e = .returned (.bool false) ∧ w'' = w') := HFt.out rfl
        have HS6 : Hid (∀ w', Fr (fun _ => False) w6 w' → w'.cell? ⟨w.heap.size, 0, none⟩ = some (.pointer (some ⟨bd, 0, none⟩)) ∧ w'.cell? ⟨w.heap.size + 1, 0, none⟩ = some (.int .i64 base)) := fun w' f => by
          obtain ⟨b0, b1, _⟩ := HBX.out _ (HF6.out.trans f (fun _ _ h => h))
          exact ⟨cell_of_one b0, cell_of_one b1⟩
        obtain ⟨k0, k1⟩ := HS6.out _ (Fr.refl _ _)
        go_wp2_with fail
        go_region_held3 (fun w' => w'.cell? ⟨w.heap.size, 0, none⟩ = some (.pointer (some ⟨bd, 0, none⟩)) ∧ w'.cell? ⟨w.heap.size + 1, 0, none⟩ = some (.int .i64 base)) (exact HS6.out _ (by repeat (first | with_reducible exact Fr.refl _ _ | with_reducible refine Fr.drew ?_))) (first | (go_at_call 19; refine (HCt.out _ ((HA.out.trans HF6.out (fun _ _ h => h)).drew)).mono ?_; rintro e u4 ⟨rfl, rfl⟩) | (go_at_call 18; refine (HFt'.out _).mono ?_; rintro e u5 ⟨rfl, rfl⟩))
        have HF7 : Hid (Fr (fun _ => False) w4 w6.drew) := HF6.out.drew
        clear k0 k1
        generalize w6.drew = w7 at *
        have hb9 := (HBX.out _ HF7.out).2.2
        have hset := set3_cells hb9 (.int .i64 0) (.int .i64 0) (.slice none 0 0)
        have hf9 : Fr (fun k => k = w.heap.size + 1 + 1 + 1) w7 (((w7.setCell ⟨w.heap.size + 1 + 1 + 1, 0, none⟩ (.int .i64 0)).setCell ⟨w.heap.size + 1 + 1 + 1, 1, none⟩ (.int .i64 0)).setCell ⟨w.heap.size + 1 + 1 + 1, 2, none⟩ (.slice none 0 0)) := (((Fr.refl (fun k => k = w.heap.size + 1 + 1 + 1) w7).setCell (p := ⟨w.heap.size + 1 + 1 + 1, 0, none⟩) (fun _ => rfl) _).setCell (p := ⟨w.heap.size + 1 + 1 + 1, 1, none⟩) (fun _ => rfl) _).setCell (p := ⟨w.heap.size + 1 + 1 + 1, 2, none⟩) (fun _ => rfl) _
        obtain ⟨w9, hw9⟩ : ∃ w9, w9 = ((w7.setCell ⟨w.heap.size + 1 + 1 + 1, 0, none⟩ (.int .i64 0)).setCell ⟨w.heap.size + 1 + 1 + 1, 1, none⟩ (.int .i64 0)).setCell ⟨w.heap.size + 1 + 1 + 1, 2, none⟩ (.slice none 0 0) := ⟨_, rfl⟩
        rw [← hw9] at hset hf9
        obtain ⟨x0, x1, x2, xf⟩ := cell_of_three hset
        have HW9 := (show Hid (w9 = ((w7.setCell ⟨w.heap.size + 1 + 1 + 1, 0, none⟩ (.int .i64 0)).setCell ⟨w.heap.size + 1 + 1 + 1, 1, none⟩ (.int .i64 0)).setCell ⟨w.heap.size + 1 + 1 + 1, 2, none⟩ (.slice none 0 0)) from hw9)
        have HE : Hid (Fr (fun _ => False) w w9) := (HA.out.trans HF7.out (fun _ _ h => h)).trans hf9 (fun i hi e => by omega)
        obtain ⟨u0, u1, u2, uf⟩ := cell_of_three hb9
        clear hset hf9 xf hb9 hw9
        go_wp2_with fail
        rw [← HW9.out]
        refine bodyPost_ret (v := .tuple #[.agg #[.int .i64 0, .int .i64 0, .slice none 0 0], .int .i64 51]) (by simp [results, Try.results8, go_sem, x0, x1, x2]) rfl ?_
        exact ⟨rfl, HE.out⟩

end Go.Proofs.Ytmfpoabhmpljgab
