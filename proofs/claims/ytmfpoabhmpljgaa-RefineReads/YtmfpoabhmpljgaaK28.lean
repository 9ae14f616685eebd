/- Package refine: what Put and Get refuse. -/
import Derived.Test.YtmfpoabhmpljgaaK23
import Derived.Test.YtmfpoabhmpljgaaKEn
namespace Go.Proofs.Ytmfpoabhmpljgaa
open Go.RowKit

/-- A bitmap as it is handed in. -/
structure MpT (w : World) (x y : Int) (v : Value) (l : List Nat) : Prop where
  hx : -9223372036854775808 ≤ x ∧ x ≤ 9223372036854775807
  hy : -9223372036854775808 ≤ y ∧ y ≤ 9223372036854775807
  hv : Seen w v l
  hlt : ∀ j : Nat, l[j]?.getD 0 < 18446744073709551616
theorem MpT.kept {w w' : World} {x y : Int} {v : Value} {l : List Nat} (h : MpT w x y v l) (f : Fr (fun _ => False) w w') : MpT w' x y v l := ⟨h.hx, h.hy, h.hv.kept f, h.hlt⟩
theorem MpT.check {w : World} {x y : Int} {v : Value} {l : List Nat} (h : MpT w x y v l) : Calls Try.prog 47 #[.agg #[.int .i64 x, .int .i64 y, v]] w fun e w' => e = .returned (.bool (validB x y l)) ∧ Fr (fun _ => False) w w' := check_any x y v l w h.hx h.hy h.hv h.hlt

set_option maxRecDepth 100000 in
set_option maxHeartbeats 1000000 in
theorem fits_no (base : Int) (n : Nat) (w : World) (h : base < 0 ∨ (n : Int) - 8192 < base) (hn : n ≤ 131072) : Calls Try.prog 49 #[.int .i64 base, .int .i64 n] w fun e w' => e = .returned (.bool false) ∧ w' = w := by
  have g1 : IntKind.i64.wrap ((n : Int) - 8192) = (n : Int) - 8192 := by rw [IntKind.wrap_i64]; omega
  by_cases h0 : base < 0
  · have d0 : decide ((0 : Int) ≤ base) = false := decide_eq_false (by omega)
    go_enter Try.func49, Try.ntmps49
    go_wp2_with fail
    go_ret
    simp
  · have d0 : decide ((0 : Int) ≤ base) = true := decide_eq_true (by omega)
    have d1 : decide (base ≤ (n : Int) - 8192) = false := decide_eq_false (by omega)
    go_enter Try.func49, Try.ntmps49
    go_wp2_with fail
    go_ret
    simp

set_option maxRecDepth 100000 in
set_option maxHeartbeats 2000000 in
theorem put_none (base x y : Int) (ao : Option Addr) (n0 cv : Nat) (rx ry : Int) (ar : Option Addr) (n1 cr : Nat) (dx dy : Int) (w : World) :
    Calls Try.prog 29 #[.pointer none, .int .i64 base, .agg #[.int .i64 x, .int .i64 y, .slice ao n0 cv], .agg #[.int .i64 rx, .int .i64 ry, .slice ar n1 cr], .int .i64 dx, .int .i64 dy] w fun e w' => e = .returned (.int .i64 53) ∧ Fr (fun _ => False) w w' := by
  go_enter Try.func29, Try.ntmps29
  go_wp2_with fail
  go_ret
  exact ⟨rfl, (((Fr.refl _ _).alloc _).alloc _).alloc _ |>.alloc _⟩

set_option maxRecDepth 100000 in
set_option maxHeartbeats 4000000 in
theorem put_refused (bc gc cc gb cb : Nat) (o : Co) (base : Int) (x y : Int) (v : Value) (l : List Nat) (rx ry : Int) (rv : Value) (rl : List Nat) (dx dy : Int) (w : World) (hc : CoAt w bc gc cc gb cb o) (hok : Ook o) (hb : MpT w x y v l) (hr : MpT w rx ry rv rl) (er : Int)
    (he : er = if validB x y l && validB rx ry rl then (if mayS dx dy then 51 else 70) else 62) (hbase : er = 51 → base < 0 ∨ (o.x.length : Int) - 8192 < base) :
    Calls Try.prog 29 #[.pointer (some ⟨bc, 0, none⟩), .int .i64 base, .agg #[.int .i64 x, .int .i64 y, v], .agg #[.int .i64 rx, .int .i64 ry, rv], .int .i64 dx, .int .i64 dy] w fun e w' => e = .returned (.int .i64 er) ∧ Fr (fun _ => False) w w' := by
  have HCk : Hid (∀ w', Fr (fun _ => False) w w' → Calls Try.prog 47 #[.agg #[.int .i64 x, .int .i64 y, v]] w' fun e w'' => e = .returned (.bool (validB x y l)) ∧ Fr (fun _ => False) w' w'') := fun w' f => (hb.kept f).check
  have HCr : Hid (∀ w', Fr (fun _ => False) w w' → Calls Try.prog 47 #[.agg #[.int .i64 rx, .int .i64 ry, rv]] w' fun e w'' => e = .returned (.bool (validB rx ry rl)) ∧ Fr (fun _ => False) w' w'') := fun w' f => (hr.kept f).check
  have HMy : Hid (∀ w', Calls Try.prog 48 #[.int .i64 dx, .int .i64 dy] w' fun e w'' => e = .returned (.bool (mayS dx dy)) ∧ w'' = w') := fun w' => mayShift_any dx dy w'
  have hlim := hok.lim
  have HFt : Hid (er = 51 → ∀ w', Calls Try.prog 49 #[.int .i64 base, .int .i64 (o.x.length : Nat)] w' fun e w'' => e = .returned (.bool false) ∧ w'' = w') := fun h w' => fits_no base _ w' (hbase h) hlim
  have HCt : Hid (∀ w', Fr (fun _ => False) w w' → Calls Try.prog 50 #[.pointer (some ⟨bc, 0, none⟩)] w' fun e w'' => e = .returned (.int .i64 (o.x.length : Nat)) ∧ w'' = w') := fun w' f => by
    obtain ⟨e0, _⟩ := cell_of_seven (hc.kept f (fun x => x) (fun x => x) (fun x => x)).blk
    exact contexts_at w' bc gc cc _ e0 hlim
  obtain ⟨ao, cv, hvv, -, -⟩ := hb.hv
  obtain ⟨ar, cr, hvr, -, -⟩ := hr.hv
  generalize l.length = n0 at *
  generalize rl.length = n1 at *
  subst hvv
  subst hvr
  generalize validB x y l = b1 at *
  generalize validB rx ry rl = b2 at *
  generalize mayS dx dy = b3 at *
  generalize o.x.length = X at *
  clear hb hr hc hok hbase hlim
  have HA : Hid (Fr (fun _ => False) w ((((w.alloc (.cells #[.pointer (some ⟨bc, 0, none⟩)] 53)).alloc (.cells #[.int .i64 base] 3)).alloc (.cells #[.int .i64 x, .int .i64 y, .slice ao n0 cv] 26)).alloc (.cells #[.int .i64 rx, .int .i64 ry, .slice ar n1 cr] 26))) := ((((Fr.refl _ _).alloc _).alloc _).alloc _).alloc _
  have HBX : Hid (∀ w', Fr (fun _ => False) ((((w.alloc (.cells #[.pointer (some ⟨bc, 0, none⟩)] 53)).alloc (.cells #[.int .i64 base] 3)).alloc (.cells #[.int .i64 x, .int .i64 y, .slice ao n0 cv] 26)).alloc (.cells #[.int .i64 rx, .int .i64 ry, .slice ar n1 cr] 26)) w' → w'.heap[w.heap.size]? = some (.cells #[.pointer (some ⟨bc, 0, none⟩)] 53 (0, 0)) ∧ w'.heap[w.heap.size + 1]? = some (.cells #[.int .i64 base] 3 (0, 0)) ∧ w'.heap[w.heap.size + 1 + 1 + 1]? = some (.cells #[.int .i64 rx, .int .i64 ry, .slice ar n1 cr] 26 (0, 0))) := fun w' f => by
    have q4 := heap_alloc_new (((w.alloc (.cells #[.pointer (some ⟨bc, 0, none⟩)] 53)).alloc (.cells #[.int .i64 base] 3)).alloc (.cells #[.int .i64 x, .int .i64 y, .slice ao n0 cv] 26)) (.cells #[.int .i64 rx, .int .i64 ry, .slice ar n1 cr] 26)
    have q2 := heap_alloc_new (w.alloc (.cells #[.pointer (some ⟨bc, 0, none⟩)] 53)) (.cells #[.int .i64 base] 3)
    have q1 := heap_alloc_new w (.cells #[.pointer (some ⟨bc, 0, none⟩)] 53)
    simp only [World.size_alloc] at q1 q2 q4
    exact ⟨blkOld f (blkUp (blkUp (blkUp q1 _) _) _), blkOld f (blkUp (blkUp q2 _) _), blkOld f q4⟩
  cases b1
  · simp only [Bool.false_and, Bool.false_eq_true, if_false] at he
    subst he
    go_enter Try.func29, Try.ntmps29
    go_wp2_with fail
    refine (HCk.out _ HA.out).mono ?_
    rintro e w5 ⟨rfl, hf5⟩
    have HF5 : Hid (Fr (fun _ => False) w w5) := HA.out.trans hf5 (fun _ _ h => h)
    clear hf5
    go_wp2_with fail
    go_ret
    exact ⟨rfl, HF5.out⟩
  · cases b2
    · simp only [Bool.true_and, Bool.false_eq_true, if_false] at he
      subst he
      go_enter Try.func29, Try.ntmps29
      go_wp2_with fail
      refine (HCk.out _ HA.out).mono ?_
      rintro e w5 ⟨rfl, hf5⟩
      have HF5 : Hid (Fr (fun _ => False) w w5) := HA.out.trans hf5 (fun _ _ h => h)
      obtain ⟨q0, q1, q2, qf⟩ := cell_of_three (HBX.out _ hf5).2.2
      clear hf5
      go_wp2_with fail
      refine (HCr.out _ HF5.out).mono ?_
      rintro e w6 ⟨rfl, hf6⟩
      have HF6 : Hid (Fr (fun _ => False) w w6) := HF5.out.trans hf6 (fun _ _ h => h)
      clear hf6 q0 q1 q2 qf
      go_wp2_with fail
      go_ret
      exact ⟨rfl, HF6.out⟩
    · cases b3
      · simp only [Bool.true_and, Bool.false_eq_true, if_false, if_true] at he
        subst he
        go_enter Try.func29, Try.ntmps29
        go_wp2_with fail
        refine (HCk.out _ HA.out).mono ?_
        rintro e w5 ⟨rfl, hf5⟩
        have HF5 : Hid (Fr (fun _ => False) w w5) := HA.out.trans hf5 (fun _ _ h => h)
        obtain ⟨q0, q1, q2, qf⟩ := cell_of_three (HBX.out _ hf5).2.2
        clear hf5
        go_wp2_with fail
        refine (HCr.out _ HF5.out).mono ?_
        rintro e w6 ⟨rfl, hf6⟩
        have HF6 : Hid (Fr (fun _ => False) w w6) := HF5.out.trans hf6 (fun _ _ h => h)
        clear hf6 q0 q1 q2 qf
        go_wp2_with fail
        refine (HMy.out _).mono ?_
        rintro e w6 ⟨rfl, rfl⟩
        go_wp2_with fail
        go_ret
        exact ⟨rfl, HF6.out⟩
      · simp only [Bool.true_and, if_true] at he
        subst he
        have HFt' : Hid (∀ w', Calls Try.prog 49 #[.int .i64 base, .int .i64 (X : Nat)] w' fun e w'' => e = .returned (.bool false) ∧ w'' = w') := HFt.out rfl
        go_enter Try.func29, Try.ntmps29
        go_wp2_with fail
        generalize ((((w.alloc (.cells #[.pointer (some ⟨bc, 0, none⟩)] 53)).alloc (.cells #[.int .i64 base] 3)).alloc (.cells #[.int .i64 x, .int .i64 y, .slice ao n0 cv] 26)).alloc (.cells #[.int .i64 rx, .int .i64 ry, .slice ar n1 cr] 26)) = w4 at *
        refine (HCk.out _ HA.out).mono ?_
        rintro e w5 ⟨rfl, hf5⟩
        have HF5 : Hid (Fr (fun _ => False) w4 w5) := hf5
        obtain ⟨q0, q1, q2, qf⟩ := cell_of_three (HBX.out _ hf5).2.2
        clear hf5
        go_wp2_with fail
        refine (HCr.out _ (HA.out.trans HF5.out (fun _ _ h => h))).mono ?_
        rintro e w6 ⟨rfl, hf6⟩
        have HF6 : Hid (Fr (fun _ => False) w4 w6) := HF5.out.trans hf6 (fun _ _ h => h)
        clear hf6 q0 q1 q2 qf
        go_wp2_with fail
        refine (HMy.out _).mono ?_
        rintro e w6 ⟨rfl, rfl⟩
        have HS6 : Hid (∀ w', Fr (fun _ => False) w6 w' → w'.cell? ⟨w.heap.size, 0, none⟩ = some (.pointer (some ⟨bc, 0, none⟩)) ∧ w'.cell? ⟨w.heap.size + 1, 0, none⟩ = some (.int .i64 base)) := fun w' f => by
          obtain ⟨b0, b1, _⟩ := HBX.out _ (HF6.out.trans f (fun _ _ h => h))
          exact ⟨cell_of_one b0, cell_of_one b1⟩
        obtain ⟨k0, k1⟩ := HS6.out _ (Fr.refl _ _)
        go_wp2_with fail
        go_region_held3 (fun w' => w'.cell? ⟨w.heap.size, 0, none⟩ = some (.pointer (some ⟨bc, 0, none⟩)) ∧ w'.cell? ⟨w.heap.size + 1, 0, none⟩ = some (.int .i64 base)) (exact HS6.out _ (by repeat (first | with_reducible exact Fr.refl _ _ | with_reducible refine Fr.drew ?_))) (first | (go_at_call 50; refine (HCt.out _ ((HA.out.trans HF6.out (fun _ _ h => h)).drew)).mono ?_; rintro e u4 ⟨rfl, rfl⟩) | (go_at_call 49; refine (HFt'.out _).mono ?_; rintro e u5 ⟨rfl, rfl⟩))
        have HF7 : Hid (Fr (fun _ => False) w w6.drew) := (HA.out.trans HF6.out (fun _ _ h => h)).drew
        clear k0 k1
        go_wp2_with fail
        go_ret
        exact ⟨rfl, HF7.out⟩

set_option maxRecDepth 100000 in
set_option maxHeartbeats 2000000 in
theorem get_none (base x y : Int) (rx ry : Int) (ar : Option Addr) (n1 cr : Nat) (dx dy : Int) (w : World) :
    Calls Try.prog 36 #[.pointer none, .int .i64 base, .int .i64 x, .int .i64 y, .agg #[.int .i64 rx, .int .i64 ry, .slice ar n1 cr], .int .i64 dx, .int .i64 dy] w fun e w' => e = .returned (.tuple #[.agg #[.int .i64 0, .int .i64 0, .slice none 0 0], .int .i64 53]) ∧ Fr (fun _ => False) w w' := by
  go_enter Try.func36, Try.ntmps36
  go_wp2_with fail
  have q4 := heap_alloc_new (((w.alloc (.cells #[.pointer none] 61)).alloc (.cells #[.int .i64 base] 3)).alloc (.cells #[.int .i64 rx, .int .i64 ry, .slice ar n1 cr] 26)) (.cells #[.int .i64 0, .int .i64 0, .slice none 0 0] 26)
  simp only [World.size_alloc] at q4
  obtain ⟨x0, x1, x2, xf⟩ := cell_of_three q4
  refine bodyPost_ret (v := .tuple #[.agg #[.int .i64 0, .int .i64 0, .slice none 0 0], .int .i64 53]) (by simp [results, Try.results36, go_sem, x0, x1, x2]) rfl ?_
  exact ⟨rfl, (((Fr.refl _ _).alloc _).alloc _).alloc _ |>.alloc _⟩

set_option maxRecDepth 100000 in
set_option maxHeartbeats 4000000 in
theorem get_refused (bd gc cc : Nat) (vb : Value) (B : List Nat) (d : De) (base : Int) (x y : Int) (rx ry : Int) (rv : Value) (rl : List Nat) (dx dy : Int) (w : World) (hd : DeAt w bd gc cc vb B d) (hok : Eok B d) (hx : -9223372036854775808 ≤ x ∧ x ≤ 9223372036854775807) (hy : -9223372036854775808 ≤ y ∧ y ≤ 9223372036854775807) (hr : MpT w rx ry rv rl) (er : Int)
    (he : er = if validB rx ry rl then (if sizeOK x y then (if mayS dx dy then 51 else 70) else 63) else 62) (hbase : er = 51 → base < 0 ∨ (d.x.length : Int) - 8192 < base) :
    Calls Try.prog 36 #[.pointer (some ⟨bd, 0, none⟩), .int .i64 base, .int .i64 x, .int .i64 y, .agg #[.int .i64 rx, .int .i64 ry, rv], .int .i64 dx, .int .i64 dy] w fun e w' => e = .returned (.tuple #[.agg #[.int .i64 0, .int .i64 0, .slice none 0 0], .int .i64 er]) ∧ Fr (fun _ => False) w w' := by
  have HCr : Hid (∀ w', Fr (fun _ => False) w w' → Calls Try.prog 47 #[.agg #[.int .i64 rx, .int .i64 ry, rv]] w' fun e w'' => e = .returned (.bool (validB rx ry rl)) ∧ Fr (fun _ => False) w' w'') := fun w' f => (hr.kept f).check
  have HNo : Hid (sizeOK x y = false → ∀ w', Calls Try.prog 64 #[.int .i64 x, .int .i64 y] w' fun e w'' => e = .returned (.tuple #[.pointer none, .int .i64 20]) ∧ Fr (fun _ => False) w' w'') := fun h w' => (new_no x y w' hx hy h).mono (fun e w2 ⟨h1, h2⟩ => ⟨h1, by rw [h2]; exact Fr.refl _ _⟩)
  have HYes : Hid (sizeOK x y = true → ∀ w', Calls Try.prog 64 #[.int .i64 x, .int .i64 y] w' fun e w'' => ∃ b, e = .returned (.tuple #[.pointer (some ⟨b, 0, none⟩), .int .i64 0]) ∧ Fr (fun _ => False) w' w'') := fun h w' => by
    unfold sizeOK at h
    obtain ⟨s1, s2, s3⟩ := of_decide_eq_true h
    obtain ⟨W, rfl⟩ : ∃ W : Nat, x = W := ⟨x.toNat, by omega⟩
    obtain ⟨H, rfl⟩ : ∃ H : Nat, y = H := ⟨y.toNat, by omega⟩
    rw [← Int.natCast_mul] at s3
    refine (new_yes W H w' (by omega) (by omega) (by omega)).mono ?_
    rintro e w2 ⟨b, g, rfl, hn⟩
    exact ⟨b, rfl, hn.fr⟩
  have HMy : Hid (∀ w', Calls Try.prog 48 #[.int .i64 dx, .int .i64 dy] w' fun e w'' => e = .returned (.bool (mayS dx dy)) ∧ w'' = w') := fun w' => mayShift_any dx dy w'
  have hlim := hok.lim
  have HFt : Hid (er = 51 → ∀ w', Calls Try.prog 49 #[.int .i64 base, .int .i64 (d.x.length : Nat)] w' fun e w'' => e = .returned (.bool false) ∧ w'' = w') := fun h w' => fits_no base _ w' (hbase h) hlim
  have HCt : Hid (∀ w', Fr (fun _ => False) w w' → Calls Try.prog 50 #[.pointer (some ⟨bd, 0, none⟩)] w' fun e w'' => e = .returned (.int .i64 (d.x.length : Nat)) ∧ w'' = w') := fun w' f => by
    obtain ⟨e0, _⟩ := cell_of_seven (hd.keptAll f).blk
    exact contexts_at w' bd gc cc _ e0 hlim
  obtain ⟨ar, cr, hvr, -, -⟩ := hr.hv
  generalize rl.length = n1 at *
  subst hvr
  generalize validB rx ry rl = b1 at *
  generalize sizeOK x y = b2 at *
  generalize mayS dx dy = b3 at *
  generalize d.x.length = X at *
  clear hr hd hok hbase hlim hx hy
  have HA : Hid (Fr (fun _ => False) w ((((w.alloc (.cells #[.pointer (some ⟨bd, 0, none⟩)] 61)).alloc (.cells #[.int .i64 base] 3)).alloc (.cells #[.int .i64 rx, .int .i64 ry, .slice ar n1 cr] 26)).alloc (.cells #[.int .i64 0, .int .i64 0, .slice none 0 0] 26))) := ((((Fr.refl _ _).alloc _).alloc _).alloc _).alloc _
  have HBX : Hid (∀ w', Fr (fun _ => False) ((((w.alloc (.cells #[.pointer (some ⟨bd, 0, none⟩)] 61)).alloc (.cells #[.int .i64 base] 3)).alloc (.cells #[.int .i64 rx, .int .i64 ry, .slice ar n1 cr] 26)).alloc (.cells #[.int .i64 0, .int .i64 0, .slice none 0 0] 26)) w' → w'.heap[w.heap.size]? = some (.cells #[.pointer (some ⟨bd, 0, none⟩)] 61 (0, 0)) ∧ w'.heap[w.heap.size + 1]? = some (.cells #[.int .i64 base] 3 (0, 0)) ∧ w'.heap[w.heap.size + 1 + 1 + 1]? = some (.cells #[.int .i64 0, .int .i64 0, .slice none 0 0] 26 (0, 0))) := fun w' f => by
    have q4 := heap_alloc_new (((w.alloc (.cells #[.pointer (some ⟨bd, 0, none⟩)] 61)).alloc (.cells #[.int .i64 base] 3)).alloc (.cells #[.int .i64 rx, .int .i64 ry, .slice ar n1 cr] 26)) (.cells #[.int .i64 0, .int .i64 0, .slice none 0 0] 26)
    have q2 := heap_alloc_new (w.alloc (.cells #[.pointer (some ⟨bd, 0, none⟩)] 61)) (.cells #[.int .i64 base] 3)
    have q1 := heap_alloc_new w (.cells #[.pointer (some ⟨bd, 0, none⟩)] 61)
    simp only [World.size_alloc] at q1 q2 q4
    exact ⟨blkOld f (blkUp (blkUp (blkUp q1 _) _) _), blkOld f (blkUp (blkUp q2 _) _), blkOld f q4⟩
  go_enter Try.func36, Try.ntmps36
  go_wp2_with fail
  generalize ((((w.alloc (.cells #[.pointer (some ⟨bd, 0, none⟩)] 61)).alloc (.cells #[.int .i64 base] 3)).alloc (.cells #[.int .i64 rx, .int .i64 ry, .slice ar n1 cr] 26)).alloc (.cells #[.int .i64 0, .int .i64 0, .slice none 0 0] 26)) = w4 at *
  refine (HCr.out _ HA.out).mono ?_
  rintro e w5 ⟨rfl, hf5⟩
  have HF5 : Hid (Fr (fun _ => False) w4 w5) := hf5
  clear hf5
  cases b1
  · simp only [Bool.false_eq_true, if_false] at he
    subst he
    have hb9 := (HBX.out _ HF5.out).2.2
    have hset := set3_cells hb9 (.int .i64 0) (.int .i64 0) (.slice none 0 0)
    have hf9 : Fr (fun k => k = w.heap.size + 1 + 1 + 1) w5 (((w5.setCell ⟨w.heap.size + 1 + 1 + 1, 0, none⟩ (.int .i64 0)).setCell ⟨w.heap.size + 1 + 1 + 1, 1, none⟩ (.int .i64 0)).setCell ⟨w.heap.size + 1 + 1 + 1, 2, none⟩ (.slice none 0 0)) := (((Fr.refl (fun k => k = w.heap.size + 1 + 1 + 1) w5).setCell (p := ⟨w.heap.size + 1 + 1 + 1, 0, none⟩) (fun _ => rfl) _).setCell (p := ⟨w.heap.size + 1 + 1 + 1, 1, none⟩) (fun _ => rfl) _).setCell (p := ⟨w.heap.size + 1 + 1 + 1, 2, none⟩) (fun _ => rfl) _
    obtain ⟨w9, hw9⟩ : ∃ w9, w9 = ((w5.setCell ⟨w.heap.size + 1 + 1 + 1, 0, none⟩ (.int .i64 0)).setCell ⟨w.heap.size + 1 + 1 + 1, 1, none⟩ (.int .i64 0)).setCell ⟨w.heap.size + 1 + 1 + 1, 2, none⟩ (.slice none 0 0) := ⟨_, rfl⟩
    rw [← hw9] at hset hf9
    obtain ⟨x0, x1, x2, xf⟩ := cell_of_three hset
    have HW9 := (show Hid (w9 = ((w5.setCell ⟨w.heap.size + 1 + 1 + 1, 0, none⟩ (.int .i64 0)).setCell ⟨w.heap.size + 1 + 1 + 1, 1, none⟩ (.int .i64 0)).setCell ⟨w.heap.size + 1 + 1 + 1, 2, none⟩ (.slice none 0 0)) from hw9)
    have HE : Hid (Fr (fun _ => False) w w9) := (HA.out.trans HF5.out (fun _ _ h => h)).trans hf9 (fun i hi e => by omega)
    obtain ⟨u0, u1, u2, uf⟩ := cell_of_three hb9
    clear hset hf9 xf hb9 hw9
    go_wp2_with fail
    rw [← HW9.out]
    refine bodyPost_ret (v := .tuple #[.agg #[.int .i64 0, .int .i64 0, .slice none 0 0], .int .i64 62]) (by simp [results, Try.results36, go_sem, x0, x1, x2]) rfl ?_
    exact ⟨rfl, HE.out⟩
  · cases b2
    · simp only [Bool.false_eq_true, if_false, if_true] at he
      subst he
      have HN := HNo.out rfl
      have HN' : Hid (∀ w', Calls Try.prog 64 #[.int .i64 x, .int .i64 y] w' fun e w'' => e = .returned (.tuple #[.pointer none, .int .i64 20]) ∧ Fr (fun _ => False) w' w'') := HN
      clear HN HNo HYes
      go_wp2_with fail
      refine (HN'.out _).mono ?_
      rintro e w6 ⟨rfl, hf6⟩
      have HF6 : Hid (Fr (fun _ => False) w4 w6) := HF5.out.trans hf6 (fun _ _ h => h)
      clear hf6
      have hb9 := (HBX.out _ HF6.out).2.2
      have hset := set3_cells hb9 (.int .i64 0) (.int .i64 0) (.slice none 0 0)
      have hf9 : Fr (fun k => k = w.heap.size + 1 + 1 + 1) w6 (((w6.setCell ⟨w.heap.size + 1 + 1 + 1, 0, none⟩ (.int .i64 0)).setCell ⟨w.heap.size + 1 + 1 + 1, 1, none⟩ (.int .i64 0)).setCell ⟨w.heap.size + 1 + 1 + 1, 2, none⟩ (.slice none 0 0)) := (((Fr.refl (fun k => k = w.heap.size + 1 + 1 + 1) w6).setCell (p := ⟨w.heap.size + 1 + 1 + 1, 0, none⟩) (fun _ => rfl) _).setCell (p := ⟨w.heap.size + 1 + 1 + 1, 1, none⟩) (fun _ => rfl) _).setCell (p := ⟨w.heap.size + 1 + 1 + 1, 2, none⟩) (fun _ => rfl) _
      obtain ⟨w9, hw9⟩ : ∃ w9, w9 = ((w6.setCell ⟨w.heap.size + 1 + 1 + 1, 0, none⟩ (.int .i64 0)).setCell ⟨w.heap.size + 1 + 1 + 1, 1, none⟩ (.int .i64 0)).setCell ⟨w.heap.size + 1 + 1 + 1, 2, none⟩ (.slice none 0 0) := ⟨_, rfl⟩
      rw [← hw9] at hset hf9
      obtain ⟨x0, x1, x2, xf⟩ := cell_of_three hset
      have HW9 := (show Hid (w9 = ((w6.setCell ⟨w.heap.size + 1 + 1 + 1, 0, none⟩ (.int .i64 0)).setCell ⟨w.heap.size + 1 + 1 + 1, 1, none⟩ (.int .i64 0)).setCell ⟨w.heap.size + 1 + 1 + 1, 2, none⟩ (.slice none 0 0)) from hw9)
      have HE : Hid (Fr (fun _ => False) w w9) := (HA.out.trans HF6.out (fun _ _ h => h)).trans hf9 (fun i hi e => by omega)
      obtain ⟨u0, u1, u2, uf⟩ := cell_of_three hb9
      clear hset hf9 xf hb9 hw9
      go_wp2_with fail
      rw [← HW9.out]
      refine bodyPost_ret (v := .tuple #[.agg #[.int .i64 0, .int .i64 0, .slice none 0 0], .int .i64 63]) (by simp [results, Try.results36, go_sem, x0, x1, x2]) rfl ?_
      exact ⟨rfl, HE.out⟩
    · have HN := HYes.out rfl
      have HN' : Hid (∀ w', Calls Try.prog 64 #[.int .i64 x, .int .i64 y] w' fun e w'' => ∃ b, e = .returned (.tuple #[.pointer (some ⟨b, 0, none⟩), .int .i64 0]) ∧ Fr (fun _ => False) w' w'') := HN
      clear HN HNo HYes
      go_wp2_with fail
      refine (HN'.out _).mono ?_
      rintro e w6 ⟨bm, rfl, hf6⟩
      have HF6 : Hid (Fr (fun _ => False) w4 w6) := HF5.out.trans hf6 (fun _ _ h => h)
      clear hf6
      go_wp2_with fail
      refine (HMy.out _).mono ?_
      rintro e w6 ⟨rfl, rfl⟩
      cases b3
      · simp only [Bool.false_eq_true, if_false, if_true] at he
        subst he
        have hb9 := (HBX.out _ HF6.out).2.2
        have hset := set3_cells hb9 (.int .i64 0) (.int .i64 0) (.slice none 0 0)
        have hf9 : Fr (fun k => k = w.heap.size + 1 + 1 + 1) w6 (((w6.setCell ⟨w.heap.size + 1 + 1 + 1, 0, none⟩ (.int .i64 0)).setCell ⟨w.heap.size + 1 + 1 + 1, 1, none⟩ (.int .i64 0)).setCell ⟨w.heap.size + 1 + 1 + 1, 2, none⟩ (.slice none 0 0)) := (((Fr.refl (fun k => k = w.heap.size + 1 + 1 + 1) w6).setCell (p := ⟨w.heap.size + 1 + 1 + 1, 0, none⟩) (fun _ => rfl) _).setCell (p := ⟨w.heap.size + 1 + 1 + 1, 1, none⟩) (fun _ => rfl) _).setCell (p := ⟨w.heap.size + 1 + 1 + 1, 2, none⟩) (fun _ => rfl) _
        obtain ⟨w9, hw9⟩ : ∃ w9, w9 = ((w6.setCell ⟨w.heap.size + 1 + 1 + 1, 0, none⟩ (.int .i64 0)).setCell ⟨w.heap.size + 1 + 1 + 1, 1, none⟩ (.int .i64 0)).setCell ⟨w.heap.size + 1 + 1 + 1, 2, none⟩ (.slice none 0 0) := ⟨_, rfl⟩
        rw [← hw9] at hset hf9
        obtain ⟨x0, x1, x2, xf⟩ := cell_of_three hset
        have HW9 := (show Hid (w9 = ((w6.setCell ⟨w.heap.size + 1 + 1 + 1, 0, none⟩ (.int .i64 0)).setCell ⟨w.heap.size + 1 + 1 + 1, 1, none⟩ (.int .i64 0)).setCell ⟨w.heap.size + 1 + 1 + 1, 2, none⟩ (.slice none 0 0)) from hw9)
        have HE : Hid (Fr (fun _ => False) w w9) := (HA.out.trans HF6.out (fun _ _ h => h)).trans hf9 (fun i hi e => by omega)
        obtain ⟨u0, u1, u2, uf⟩ := cell_of_three hb9
        clear hset hf9 xf hb9 hw9
        go_wp2_with fail
        rw [← HW9.out]
        refine bodyPost_ret (v := .tuple #[.agg #[.int .i64 0, .int .i64 0, .slice none 0 0], .int .i64 70]) (by simp [results, Try.results36, go_sem, x0, x1, x2]) rfl ?_
        exact ⟨rfl, HE.out⟩
      · simp only [if_true] at he
        subst he
        have HFt' : Hid (∀ w', Calls Try.prog 49 #[.int .i64 base, .int .i64 (X : Nat)] w' fun e w'' => e = .returned (.bool false) ∧ w'' = w') := HFt.out rfl
        have HS6 : Hid (∀ w', Fr (fun _ => False) w6 w' → w'.cell? ⟨w.heap.size, 0, none⟩ = some (.pointer (some ⟨bd, 0, none⟩)) ∧ w'.cell? ⟨w.heap.size + 1, 0, none⟩ = some (.int .i64 base)) := fun w' f => by
          obtain ⟨b0, b1, _⟩ := HBX.out _ (HF6.out.trans f (fun _ _ h => h))
          exact ⟨cell_of_one b0, cell_of_one b1⟩
        obtain ⟨k0, k1⟩ := HS6.out _ (Fr.refl _ _)
        go_wp2_with fail
        go_region_held3 (fun w' => w'.cell? ⟨w.heap.size, 0, none⟩ = some (.pointer (some ⟨bd, 0, none⟩)) ∧ w'.cell? ⟨w.heap.size + 1, 0, none⟩ = some (.int .i64 base)) (exact HS6.out _ (by repeat (first | with_reducible exact Fr.refl _ _ | with_reducible refine Fr.drew ?_))) (first | (go_at_call 50; refine (HCt.out _ ((HA.out.trans HF6.out (fun _ _ h => h)).drew)).mono ?_; rintro e u4 ⟨rfl, rfl⟩) | (go_at_call 49; refine (HFt'.out _).mono ?_; rintro e u5 ⟨rfl, rfl⟩))
        have HF7 : Hid (Fr (fun _ => False) w4 w6.drew) := HF6.out.drew
        clear k0 k1
        generalize w6.drew = w7 at *
        have hb9 := (HBX.out _ HF7.out).2.2
        have hset := set3_cells hb9 (.int .i64 0) (.int .i64 0) (.slice none 0 0)
        have hf9 : Fr (fun k => k = w.heap.size + 1 + 1 + 1) w7 (((w7.setCell ⟨w.heap.size + 1 + 1 + 1, 0, none⟩ (.int .i64 0)).setCell ⟨w.heap.size + 1 + 1 + 1, 1, none⟩ (.int .i64 0)).setCell ⟨w.heap.size + 1 + 1 + 1, 2, none⟩ (.slice none 0 0)) := (((Fr.refl (fun k => k = w.heap.size + 1 + 1 + 1) w7).setCell (p := ⟨w.heap.size + 1 + 1 + 1, 0, none⟩) (fun _ => rfl) _).setCell (p := ⟨w.heap.size + 1 + 1 + 1, 1, none⟩) (fun _ => rfl) _).setCell (p := ⟨w.heap.size + 1 + 1 + 1, 2, none⟩) (fun _ => rfl) _
        obtain ⟨w9, hw9⟩ : ∃ w9, w9 = ((w7.setCell ⟨w.heap.size + 1 + 1 + 1, 0, none⟩ (.int .i64 0)).setCell ⟨w.heap.size + 1 + 1 + 1, 1, none⟩ (.int .i64 0)).setCell ⟨w.heap.size + 1 + 1 + 1, 2, none⟩ (.slice none 0 0) := ⟨_, rfl⟩
        rw [← hw9] at hset hf9
        obtain ⟨x0, x1, x2, xf⟩ := cell_of_three hset
        have HW9 := (show Hid (w9 = ((w7.setCell ⟨w.heap.size + 1 + 1 + 1, 0, none⟩ (.int .i64 0)).setCell ⟨w.heap.size + 1 + 1 + 1, 1, none⟩ (.int .i64 0)).setCell ⟨w.heap.size + 1 + 1 + 1, 2, none⟩ (.slice none 0 0)) from hw9)
        have HE : Hid (Fr (fun _ => False) w w9) := (HA.out.trans HF7.out (fun _ _ h => h)).trans hf9 (fun i hi e => by omega)
        obtain ⟨u0, u1, u2, uf⟩ := cell_of_three hb9
        clear hset hf9 xf hb9 hw9
        go_wp2_with fail
        rw [← HW9.out]
        refine bodyPost_ret (v := .tuple #[.agg #[.int .i64 0, .int .i64 0, .slice none 0 0], .int .i64 51]) (by simp [results, Try.results36, go_sem, x0, x1, x2]) rfl ?_
        exact ⟨rfl, HE.out⟩

end Go.Proofs.Ytmfpoabhmpljgaa

/- What Decode says, whatever it is given. -/
namespace Go.Proofs.Ytmfpoabhmpljgaa
open Go.RowKit

/-- What Decode says. -/
def decE (x y rx ry : Int) (rl : List Nat) (dx dy : Int) : Int := if validB rx ry rl then (if sizeOK x y then (if mayS dx dy then 0 else 70) else 63) else 62
theorem MpS.t {w : World} {x y : Int} {v : Value} {l : List Nat} (h : MpS w x y v l) : MpT w x y v l := ⟨h.hx, h.hy, h.hv, h.hlt⟩

theorem seen_none (w : World) : Seen w (.slice none 0 0) [] := ⟨none, 0, rfl, by decide, fun h => absurd rfl h⟩

set_option maxRecDepth 100000 in
set_option maxHeartbeats 4000000 in
theorem rfdecode_bad (v : Value) (B : List Nat) (x y rx ry : Int) (rv : Value) (rl : List Nat) (dx dy : Int) (w : World) (hv : SeenAt w v B) (hnil : v = .slice none 0 0 ∨ ∃ a n c, v = .slice (some a) n c) (hB : ∀ y ∈ B, y < 256) (hx : -9223372036854775808 ≤ x ∧ x ≤ 9223372036854775807) (hy : -9223372036854775808 ≤ y ∧ y ≤ 9223372036854775807) (hr : MpS w rx ry rv rl) (he : decE x y rx ry rl dx dy ≠ 0) :
    Calls Try.prog 18 #[v, .int .i64 x, .int .i64 y, .agg #[.int .i64 rx, .int .i64 ry, rv], .int .i64 dx, .int .i64 dy] w fun e w' => e = .returned (.tuple #[.agg #[.int .i64 0, .int .i64 0, .slice none 0 0], .int .i64 (decE x y rx ry rl dx dy)]) ∧ Fr (fun _ => False) w w' := by
  have HNw : Hid (∀ w', Fr (fun _ => False) w w' → Calls Try.prog 33 #[v, .int .i64 8192] w' fun e w'' => ∃ bd gc vb, e = .returned (.tuple #[.pointer (some ⟨bd, 0, none⟩), .int .i64 0]) ∧ DeAt w'' bd gc 8192 vb B (newD B 8192) ∧ Fr (fun _ => False) w' w'' ∧ w'.heap.size ≤ bd ∧ w'.heap.size ≤ gc ∧ ∀ k, vb.ownBlock = some k → w'.heap.size ≤ k) := fun w' f => newDecoder_any w' v B 8192 (by omega) (by omega) (hv.kept f (fun _ _ h => h)) hnil hB
  obtain ⟨er, her⟩ : ∃ er, er = decE x y rx ry rl dx dy := ⟨_, rfl⟩
  have hE2 : er = if validB rx ry rl then (if sizeOK x y then (if mayS dx dy then 51 else 70) else 63) else 62 := by
    rw [her]
    revert he
    unfold decE
    cases validB rx ry rl <;> cases sizeOK x y <;> cases mayS dx dy <;> simp
  have hE3 : er ≠ 51 := by
    rw [her]; unfold decE
    cases validB rx ry rl <;> cases sizeOK x y <;> cases mayS dx dy <;> simp
  have HGt : Hid (∀ (w' : World) (bd gc : Nat) (vb : Value), Fr (fun _ => False) w w' → DeAt w' bd gc 8192 vb B (newD B 8192) → Calls Try.prog 36 #[.pointer (some ⟨bd, 0, none⟩), .int .i64 0, .int .i64 x, .int .i64 y, .agg #[.int .i64 rx, .int .i64 ry, rv], .int .i64 dx, .int .i64 dy] w' fun e w'' => e = .returned (.tuple #[.agg #[.int .i64 0, .int .i64 0, .slice none 0 0], .int .i64 er]) ∧ Fr (fun _ => False) w' w'') := fun w' bd gc vb f hd =>
    get_refused bd gc 8192 vb B (newD B 8192) 0 x y rx ry rv rl dx dy w' hd (newD_ok (by omega) (by omega) hB) hx hy (hr.kept f).t er hE2 (fun h => absurd h hE3)
  rw [← her]
  obtain ⟨ar, cr, hvr, -, -⟩ := hr.hv
  generalize rl.length = n1 at *
  subst hvr
  clear hB hv hr he her hE2 hE3 hx hy
  obtain ⟨N0, HNN⟩ : ∃ N0, Hid (N0 = newD B 8192) := ⟨_, rfl⟩
  rw [← HNN.out] at HNw HGt
  have HA : Hid (Fr (fun _ => False) w ((w.alloc (.cells #[.int .i64 rx, .int .i64 ry, .slice ar n1 cr] 26)).alloc (.cells #[.int .i64 0, .int .i64 0, .slice none 0 0] 26))) := ((Fr.refl _ _).alloc _).alloc _
  have HBX : Hid (∀ w', Fr (fun _ => False) ((w.alloc (.cells #[.int .i64 rx, .int .i64 ry, .slice ar n1 cr] 26)).alloc (.cells #[.int .i64 0, .int .i64 0, .slice none 0 0] 26)) w' → w'.heap[w.heap.size]? = some (.cells #[.int .i64 rx, .int .i64 ry, .slice ar n1 cr] 26 (0, 0)) ∧ w'.heap[w.heap.size + 1]? = some (.cells #[.int .i64 0, .int .i64 0, .slice none 0 0] 26 (0, 0))) := fun w' f => by
    have q2 := heap_alloc_new (w.alloc (.cells #[.int .i64 rx, .int .i64 ry, .slice ar n1 cr] 26)) (.cells #[.int .i64 0, .int .i64 0, .slice none 0 0] 26)
    have q1 := heap_alloc_new w (.cells #[.int .i64 rx, .int .i64 ry, .slice ar n1 cr] 26)
    simp only [World.size_alloc] at q1 q2
    exact ⟨blkOld f (blkUp q1 _), blkOld f q2⟩
  go_enter Try.func18, Try.ntmps18
  go_wp2_with fail
  generalize ((w.alloc (.cells #[.int .i64 rx, .int .i64 ry, .slice ar n1 cr] 26)).alloc (.cells #[.int .i64 0, .int .i64 0, .slice none 0 0] 26)) = wA at *
  refine (HNw.out _ HA.out).mono ?_
  rintro e w3 ⟨bd, gc, vb, rfl, hd3, hf3, hb3, hg3, hl3⟩
  have HF3 : Hid (Fr (fun _ => False) wA w3) := hf3
  have hwA : w.heap.size + 1 < wA.heap.size := lt_of_block (HBX.out _ (Fr.refl _ _)).2
  have HD3 : Hid (DeAt w3 bd gc 8192 vb B N0 ∧ w.heap.size + 1 < bd ∧ w.heap.size + 1 < gc ∧ (∀ k, vb.ownBlock = some k → w.heap.size + 1 < k)) := ⟨hd3, by omega, by omega, fun k hk => by have := hl3 k hk; omega⟩
  clear hd3 hf3 hb3 hg3 hl3
  obtain ⟨p0, p1, p2, pf⟩ := cell_of_three (HBX.out _ HF3.out).1
  go_wp2_with fail
  refine (HGt.out _ bd gc vb (HA.out.trans HF3.out (fun _ _ h => h)) HD3.out.1).mono ?_
  rintro e w4 ⟨rfl, hf4⟩
  have HF4 : Hid (Fr (fun _ => False) wA w4) := HF3.out.trans hf4 (fun _ _ h => h)
  have hb4 := (HBX.out _ HF4.out).2
  have hset := set3_cells hb4 (.int .i64 0) (.int .i64 0) (.slice none 0 0)
  have hf9 : Fr (fun k => k = w.heap.size + 1) w4 (((w4.setCell ⟨w.heap.size + 1, 0, none⟩ (.int .i64 0)).setCell ⟨w.heap.size + 1, 1, none⟩ (.int .i64 0)).setCell ⟨w.heap.size + 1, 2, none⟩ (.slice none 0 0)) := (((Fr.refl (fun k => k = w.heap.size + 1) w4).setCell (p := ⟨w.heap.size + 1, 0, none⟩) (fun _ => rfl) _).setCell (p := ⟨w.heap.size + 1, 1, none⟩) (fun _ => rfl) _).setCell (p := ⟨w.heap.size + 1, 2, none⟩) (fun _ => rfl) _
  obtain ⟨w9, hw9⟩ : ∃ w9, w9 = ((w4.setCell ⟨w.heap.size + 1, 0, none⟩ (.int .i64 0)).setCell ⟨w.heap.size + 1, 1, none⟩ (.int .i64 0)).setCell ⟨w.heap.size + 1, 2, none⟩ (.slice none 0 0) := ⟨_, rfl⟩
  rw [← hw9] at hset hf9
  obtain ⟨x0, x1, x2, xf⟩ := cell_of_three hset
  have HW9 := (show Hid (w9 = ((w4.setCell ⟨w.heap.size + 1, 0, none⟩ (.int .i64 0)).setCell ⟨w.heap.size + 1, 1, none⟩ (.int .i64 0)).setCell ⟨w.heap.size + 1, 2, none⟩ (.slice none 0 0)) from hw9)
  have HE : Hid (Fr (fun _ => False) w w9) := (HA.out.trans HF4.out (fun _ _ h => h)).trans hf9 (fun i hi e => by omega)
  obtain ⟨u0, u1, u2, uf⟩ := cell_of_three hb4
  clear hf4 hset hf9 xf hb4 hw9 p0 p1 p2 pf
  go_wp2_with fail
  rw [← HW9.out]
  refine bodyPost_ret (v := .tuple #[.agg #[.int .i64 0, .int .i64 0, .slice none 0 0], .int .i64 er]) (by simp [results, Try.results18, go_sem, x0, x1, x2]) rfl ?_
  exact ⟨rfl, HE.out⟩

/-- What Decode tells: the bitmap's words. -/
def rdL (B : List Nat) (x y rx ry : Int) (rl : List Nat) (dx dy : Int) : List Nat := if decE x y rx ry rl dx dy = 0 then render x.toNat y.toNat (gotW B (cxR x.toNat (refP rx.toNat ry.toNat (pixOf rx.toNat rl) dx dy)) 0 x.toNat y.toNat (newD B 8192)).2 else []
def decN (x y rx ry : Int) (rl : List Nat) (dx dy z : Int) : Int := if decE x y rx ry rl dx dy = 0 then z else 0
theorem decE_ok {x y rx ry : Int} {rl : List Nat} {dx dy : Int} (h : decE x y rx ry rl dx dy = 0) : validB rx ry rl = true ∧ sizeOK x y = true ∧ mayS dx dy = true := by
  unfold decE at h
  cases h1 : validB rx ry rl <;> cases h2 : sizeOK x y <;> cases h3 : mayS dx dy <;> simp_all

theorem Seen.keptB {w w' : World} {v : Value} {l : List Nat} {S : Nat → Prop} (h : Seen w v l) (f : Fr S w w') (hs : ∀ k, v.ownBlock = some k → ¬ S k) : Seen w' v l := by
  obtain ⟨ao, cap, rfl, hl, hc⟩ := h
  refine ⟨ao, cap, rfl, hl, fun hne => ?_⟩
  obtain ⟨b, off, rfl, hcc⟩ := hc hne
  exact ⟨b, off, rfl, fun j hj => f.cell (hcc j hj) (hs b rfl)⟩

theorem rfdecode_all (v : Value) (B : List Nat) (x y rx ry : Int) (rv : Value) (rl : List Nat) (dx dy : Int) (w : World) (hv : SeenAt w v B) (hnil : v = .slice none 0 0 ∨ ∃ a n c, v = .slice (some a) n c) (hB : ∀ y ∈ B, y < 256) (hx : -9223372036854775808 ≤ x ∧ x ≤ 9223372036854775807) (hy : -9223372036854775808 ≤ y ∧ y ≤ 9223372036854775807) (hr : MpS w rx ry rv rl) :
    Calls Try.prog 18 #[v, .int .i64 x, .int .i64 y, .agg #[.int .i64 rx, .int .i64 ry, rv], .int .i64 dx, .int .i64 dy] w fun e w' => ∃ vf, e = .returned (.tuple #[.agg #[.int .i64 (decN x y rx ry rl dx dy x), .int .i64 (decN x y rx ry rl dx dy y), vf], .int .i64 (decE x y rx ry rl dx dy)]) ∧ Seen w' vf (rdL B x y rx ry rl dx dy) ∧ (∀ k, vf.ownBlock = some k → w.heap.size ≤ k) ∧ Fr (fun _ => False) w w' := by
  by_cases he : decE x y rx ry rl dx dy ≠ 0
  · refine (rfdecode_bad v B x y rx ry rv rl dx dy w hv hnil hB hx hy hr he).mono ?_
    rintro e w' ⟨rfl, hf⟩
    unfold decN rdL
    rw [if_neg he, if_neg he, if_neg he]
    exact ⟨_, rfl, seen_none w', fun k hk => by simp [Value.ownBlock] at hk, hf⟩
  · have he' : decE x y rx ry rl dx dy = 0 := by omega
    obtain ⟨h1, h2, h3⟩ := decE_ok he'
    unfold decN rdL
    rw [if_pos he', if_pos he', if_pos he', he']
    obtain ⟨V, U, rfl, rfl, hl, hbm⟩ := valid_bm2 h1 hr.hv hr.hc hr.hlt
    unfold sizeOK at h2
    obtain ⟨s1, s2, s3⟩ := of_decide_eq_true h2
    obtain ⟨W, rfl⟩ : ∃ W : Nat, x = W := ⟨x.toNat, by omega⟩
    obtain ⟨H, rfl⟩ : ∃ H : Nat, y = H := ⟨y.toNat, by omega⟩
    rw [← Int.natCast_mul] at s3
    have hm := of_decide_eq_true h3
    refine (rfdecode_ok v B W H V U rv _ dx dy w hv hnil hB (by omega) (by omega) (by omega) hbm hm.1 hm.2).mono ?_
    rintro e w' ⟨g, cap, rfl, hrow, hg, hf⟩
    exact ⟨_, rfl, hrow.seen (size_facts (by omega) (by omega) (by omega)).2.2, fun k hk => by simp [Value.ownBlock] at hk; omega, hf⟩

end Go.Proofs.Ytmfpoabhmpljgaa
