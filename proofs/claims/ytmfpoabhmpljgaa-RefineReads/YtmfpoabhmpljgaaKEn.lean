/- Encode, whatever it is given: the program's and the document's own. -/
import Derived.Test.YtmfpoabhmpljgaaKRq
import Derived.Test.YtmfpoabhmpljgaaK24
import Derived.Test.YtmfpoabhmpljgaaK14
import Derived.Test.YtmfpoabhmpljgaaK25
namespace Go.Proofs.Ytmfpoabhmpljgaa
open Go.RowKit

/-- What Encode tells. -/
def okA (x y : Int) (l : List Nat) (rx ry : Int) (rl : List Nat) : Bool := validB x y l && validB rx ry rl
def encE (x y : Int) (l : List Nat) (rx ry : Int) (rl : List Nat) (dx dy : Int) : Int := if okA x y l rx ry rl then (if mayS dx dy then 0 else 70) else 62
def encL (x y : Int) (l : List Nat) (rx ry : Int) (rl : List Nat) (dx dy : Int) (base : Nat) : List (Int × Nat) := rowsD (cxR x.toNat (refP rx.toNat ry.toNat (pixOf rx.toNat rl) dx dy)) base x.toNat (pixOf x.toNat l) y.toNat
def encB (x y : Int) (l : List Nat) (rx ry : Int) (rl : List Nat) (dx dy : Int) : List Nat := if okA x y l rx ry rl && mayS dx dy then codedB 8192 (encL x y l rx ry rl dx dy 0) else []
theorem seenAt_nil (w : World) : SeenAt w (.slice none 0 0) [] := ⟨none, 0, rfl, by simp, fun h => absurd rfl h⟩
theorem light_valid {x y : Int} {l : List Nat} (h : lightB x y l = true) (hv : validB x y l = true) : x * y ≤ 4000 := by
  unfold lightB at h
  simp only [Bool.and_eq_true, Bool.or_eq_true, decide_eq_true_eq, hv, Bool.not_true, Bool.false_eq_true, false_or] at h
  exact h.2
/-- A bitmap that may be, by its words. -/
theorem valid_bm2 {x y : Int} {v : Value} {l : List Nat} {w : World} (h : validB x y l = true) (hv : Seen w v l) (hc : CapOK v) (hlt : ∀ j : Nat, l[j]?.getD 0 < 18446744073709551616) : ∃ (W H : Nat), x = W ∧ y = H ∧ l = render W H (pixOf W l) ∧ Bm w v W H (pixOf W l) := by
  have h' := h
  unfold validB at h
  simp only [Bool.and_eq_true, decide_eq_true_eq] at h
  obtain ⟨⟨hs, hl⟩, hr⟩ := h
  unfold sizeOK at hs
  obtain ⟨s1, s2, s3⟩ := of_decide_eq_true hs
  obtain ⟨W, rfl⟩ : ∃ W : Nat, x = W := ⟨x.toNat, by omega⟩
  obtain ⟨H, rfl⟩ : ∃ H : Nat, y = H := ⟨y.toNat, by omega⟩
  have e := valid_render W H l (by omega) hl hr hlt
  refine ⟨W, H, rfl, rfl, e, ?_, hc, by omega, by omega, ?_⟩
  · rw [← e]; exact hv
  · rw [← Int.natCast_mul] at s3; omega

/-- What is handed in of a bitmap: less than `MpOK`, enough for Check. -/
structure MpS (w : World) (x y : Int) (v : Value) (l : List Nat) : Prop where
  hx : -9223372036854775808 ≤ x ∧ x ≤ 9223372036854775807
  hy : -9223372036854775808 ≤ y ∧ y ≤ 9223372036854775807
  hv : Seen w v l
  hc : CapOK v
  hlt : ∀ j : Nat, l[j]?.getD 0 < 18446744073709551616
theorem MpS.kept {w w' : World} {x y : Int} {v : Value} {l : List Nat} (h : MpS w x y v l) (f : Fr (fun _ => False) w w') : MpS w' x y v l := ⟨h.hx, h.hy, h.hv.kept f, h.hc, h.hlt⟩
theorem MpOK.s {w : World} {x y : Int} {v : Value} {l : List Nat} (h : MpOK w x y v l) : MpS w x y v l := ⟨h.hx, h.hy, h.hv, h.hc, h.hlt⟩
theorem MpS.check {w : World} {x y : Int} {v : Value} {l : List Nat} (h : MpS w x y v l) : Calls Try.prog 47 #[.agg #[.int .i64 x, .int .i64 y, v]] w fun e w' => e = .returned (.bool (validB x y l)) ∧ Fr (fun _ => False) w w' := check_any x y v l w h.hx h.hy h.hv h.hlt
theorem MpS.may {w : World} {x y : Int} {v : Value} {l : List Nat} (h : MpS w x y v l) : Calls Try.prog 22 #[.agg #[.int .i64 x, .int .i64 y, v]] w fun e w' => e = .returned (.bool (validB x y l)) ∧ Fr (fun _ => False) w w' := may_any x y v l w h.hx h.hy h.hv h.hlt

set_option maxRecDepth 100000 in
set_option maxHeartbeats 2000000 in
theorem rfput_bad (bc : Nat) (base : Int) (x y : Int) (v : Value) (l : List Nat) (rx ry : Int) (rv : Value) (rl : List Nat) (dx dy : Int) (w : World) (hb : MpS w x y v l) (hr : MpS w rx ry rv rl) (he : encE x y l rx ry rl dx dy ≠ 0) :
    Calls Try.prog 29 #[.pointer (some ⟨bc, 0, none⟩), .int .i64 base, .agg #[.int .i64 x, .int .i64 y, v], .agg #[.int .i64 rx, .int .i64 ry, rv], .int .i64 dx, .int .i64 dy] w fun e w' => e = .returned (.int .i64 (encE x y l rx ry rl dx dy)) ∧ Fr (fun _ => False) w w' := by
  have HCk : Hid (∀ w', Fr (fun _ => False) w w' → Calls Try.prog 47 #[.agg #[.int .i64 x, .int .i64 y, v]] w' fun e w'' => e = .returned (.bool (validB x y l)) ∧ Fr (fun _ => False) w' w'') := fun w' f => (hb.kept f).check
  have HCr : Hid (∀ w', Fr (fun _ => False) w w' → Calls Try.prog 47 #[.agg #[.int .i64 rx, .int .i64 ry, rv]] w' fun e w'' => e = .returned (.bool (validB rx ry rl)) ∧ Fr (fun _ => False) w' w'') := fun w' f => (hr.kept f).check
  have HMy : Hid (∀ w', Calls Try.prog 48 #[.int .i64 dx, .int .i64 dy] w' fun e w'' => e = .returned (.bool (mayS dx dy)) ∧ w'' = w') := fun w' => mayShift_any dx dy w'
  obtain ⟨ao, cv, hvv, -, -⟩ := hb.hv
  obtain ⟨ar, cr, hvr, -, -⟩ := hr.hv
  generalize l.length = n0 at *
  generalize rl.length = n1 at *
  subst hvv
  subst hvr
  unfold encE okA at *
  generalize validB x y l = b1 at *
  generalize validB rx ry rl = b2 at *
  generalize mayS dx dy = b3 at *
  clear hb hr
  have HA : Hid (Fr (fun _ => False) w ((((w.alloc (.cells #[.pointer (some ⟨bc, 0, none⟩)] 53)).alloc (.cells #[.int .i64 base] 3)).alloc (.cells #[.int .i64 x, .int .i64 y, .slice ao n0 cv] 26)).alloc (.cells #[.int .i64 rx, .int .i64 ry, .slice ar n1 cr] 26))) := ((((Fr.refl _ _).alloc _).alloc _).alloc _).alloc _
  have HBX : Hid (∀ w', Fr (fun _ => False) ((((w.alloc (.cells #[.pointer (some ⟨bc, 0, none⟩)] 53)).alloc (.cells #[.int .i64 base] 3)).alloc (.cells #[.int .i64 x, .int .i64 y, .slice ao n0 cv] 26)).alloc (.cells #[.int .i64 rx, .int .i64 ry, .slice ar n1 cr] 26)) w' → w'.heap[w.heap.size + 1 + 1 + 1]? = some (.cells #[.int .i64 rx, .int .i64 ry, .slice ar n1 cr] 26 (0, 0))) := fun w' f => by
    have q4 := heap_alloc_new (((w.alloc (.cells #[.pointer (some ⟨bc, 0, none⟩)] 53)).alloc (.cells #[.int .i64 base] 3)).alloc (.cells #[.int .i64 x, .int .i64 y, .slice ao n0 cv] 26)) (.cells #[.int .i64 rx, .int .i64 ry, .slice ar n1 cr] 26)
    simp only [World.size_alloc] at q4
    exact blkOld f q4
  cases b1
  · simp only [Bool.false_and, Bool.false_eq_true, if_false]
    go_enter Try.func29, Try.ntmps29
    go_wp2_with fail
    refine (HCk.out _ HA.out).mono ?_
    rintro e w5 ⟨rfl, hf5⟩
    have HF5 : Hid (Fr (fun _ => False) w w5) := HA.out.trans hf5 (fun _ _ h => h)
    clear hf5
    go_wp2_with fail
    go_ret
    exact ⟨rfl, HF5.out⟩
  · cases b2
    · simp only [Bool.true_and, Bool.false_eq_true, if_false]
      go_enter Try.func29, Try.ntmps29
      go_wp2_with fail
      refine (HCk.out _ HA.out).mono ?_
      rintro e w5 ⟨rfl, hf5⟩
      have HF5 : Hid (Fr (fun _ => False) w w5) := HA.out.trans hf5 (fun _ _ h => h)
      obtain ⟨q0, q1, q2, qf⟩ := cell_of_three (HBX.out _ hf5)
      clear hf5
      go_wp2_with fail
      refine (HCr.out _ HF5.out).mono ?_
      rintro e w6 ⟨rfl, hf6⟩
      have HF6 : Hid (Fr (fun _ => False) w w6) := HF5.out.trans hf6 (fun _ _ h => h)
      clear hf6 q0 q1 q2 qf
      go_wp2_with fail
      go_ret
      exact ⟨rfl, HF6.out⟩
    · cases b3
      · simp only [Bool.true_and, Bool.false_eq_true, if_false, if_true]
        go_enter Try.func29, Try.ntmps29
        go_wp2_with fail
        refine (HCk.out _ HA.out).mono ?_
        rintro e w5 ⟨rfl, hf5⟩
        have HF5 : Hid (Fr (fun _ => False) w w5) := HA.out.trans hf5 (fun _ _ h => h)
        obtain ⟨q0, q1, q2, qf⟩ := cell_of_three (HBX.out _ hf5)
        clear hf5
        go_wp2_with fail
        refine (HCr.out _ HF5.out).mono ?_
        rintro e w6 ⟨rfl, hf6⟩
        have HF6 : Hid (Fr (fun _ => False) w w6) := HF5.out.trans hf6 (fun _ _ h => h)
        clear hf6 q0 q1 q2 qf
        go_wp2_with fail
        refine (HMy.out _).mono ?_
        rintro e w6 ⟨rfl, rfl⟩
        go_wp2_with fail
        go_ret
        exact ⟨rfl, HF6.out⟩
      · simp at he

set_option maxRecDepth 100000 in
set_option maxHeartbeats 2000000 in
theorem rfencode_bad (x y : Int) (v : Value) (l : List Nat) (rx ry : Int) (rv : Value) (rl : List Nat) (dx dy : Int) (w : World) (hb : MpS w x y v l) (hr : MpS w rx ry rv rl) (he : encE x y l rx ry rl dx dy ≠ 0) :
    Calls Try.prog 11 #[.agg #[.int .i64 x, .int .i64 y, v], .agg #[.int .i64 rx, .int .i64 ry, rv], .int .i64 dx, .int .i64 dy] w fun e w' => e = .returned (.tuple #[.slice none 0 0, .int .i64 (encE x y l rx ry rl dx dy)]) ∧ Fr (fun _ => False) w w' := by
  have HNw : Hid (∀ w', Calls Try.prog 27 #[.int .i64 8192] w' fun e w'' => ∃ bc gc gb, e = .returned (.tuple #[.pointer (some ⟨bc, 0, none⟩), .int .i64 0]) ∧ CoAt w'' bc gc 8192 gb 1 (newP 8192) ∧ Fr (fun _ => False) w' w'' ∧ w'.heap.size ≤ bc ∧ w'.heap.size ≤ gc ∧ w'.heap.size ≤ gb) := fun w' => new_any w' 8192 (by omega) (by omega)
  have HPt : Hid (∀ (w' : World) (bc : Nat), Fr (fun _ => False) w w' → Calls Try.prog 29 #[.pointer (some ⟨bc, 0, none⟩), .int .i64 0, .agg #[.int .i64 x, .int .i64 y, v], .agg #[.int .i64 rx, .int .i64 ry, rv], .int .i64 dx, .int .i64 dy] w' fun e w'' => e = .returned (.int .i64 (encE x y l rx ry rl dx dy)) ∧ Fr (fun _ => False) w' w'') := fun w' bc f => rfput_bad bc 0 x y v l rx ry rv rl dx dy w' (hb.kept f) (hr.kept f) he
  obtain ⟨ao, cv, hvv, -, -⟩ := hb.hv
  obtain ⟨ar, cr, hvr, -, -⟩ := hr.hv
  generalize encE x y l rx ry rl dx dy = er at *
  generalize l.length = n0 at *
  generalize rl.length = n1 at *
  subst hvv
  subst hvr
  have hne : (er != 0) = true := by rw [bne_iff_ne]; exact he
  clear hb hr he
  generalize newP 8192 = N0 at *
  have HA : Hid (Fr (fun _ => False) w ((w.alloc (.cells #[.int .i64 x, .int .i64 y, .slice ao n0 cv] 26)).alloc (.cells #[.int .i64 rx, .int .i64 ry, .slice ar n1 cr] 26))) := ((Fr.refl _ _).alloc _).alloc _
  have HBX : Hid (∀ w', Fr (fun _ => False) ((w.alloc (.cells #[.int .i64 x, .int .i64 y, .slice ao n0 cv] 26)).alloc (.cells #[.int .i64 rx, .int .i64 ry, .slice ar n1 cr] 26)) w' → w'.heap[w.heap.size]? = some (.cells #[.int .i64 x, .int .i64 y, .slice ao n0 cv] 26 (0, 0)) ∧ w'.heap[w.heap.size + 1]? = some (.cells #[.int .i64 rx, .int .i64 ry, .slice ar n1 cr] 26 (0, 0))) := fun w' f => by
    have q2 := heap_alloc_new (w.alloc (.cells #[.int .i64 x, .int .i64 y, .slice ao n0 cv] 26)) (.cells #[.int .i64 rx, .int .i64 ry, .slice ar n1 cr] 26)
    have q1 := heap_alloc_new w (.cells #[.int .i64 x, .int .i64 y, .slice ao n0 cv] 26)
    simp only [World.size_alloc] at q1 q2
    exact ⟨blkOld f (blkUp q1 _), blkOld f q2⟩
  go_enter Try.func11, Try.ntmps11
  go_wp2_with fail
  generalize ((w.alloc (.cells #[.int .i64 x, .int .i64 y, .slice ao n0 cv] 26)).alloc (.cells #[.int .i64 rx, .int .i64 ry, .slice ar n1 cr] 26)) = wA at *
  refine (HNw.out _).mono ?_
  rintro e w3 ⟨bc, gc, gb, rfl, -, hf3, -, -, -⟩
  have HF3 : Hid (Fr (fun _ => False) wA w3) := hf3
  clear hf3
  obtain ⟨q0, q1, q2, qf⟩ := cell_of_three (HBX.out _ HF3.out).1
  obtain ⟨p0, p1, p2, pf⟩ := cell_of_three (HBX.out _ HF3.out).2
  go_wp2_with fail
  refine (HPt.out _ bc (HA.out.trans HF3.out (fun _ _ h => h))).mono ?_
  rintro e w4 ⟨rfl, hf4⟩
  have HF4 : Hid (Fr (fun _ => False) w w4) := (HA.out.trans HF3.out (fun _ _ h => h)).trans hf4 (fun _ _ h => h)
  clear hf4 q0 q1 q2 qf p0 p1 p2 pf
  go_wp2_with fail
  go_ret2
  exact ⟨rfl, HF4.out⟩

theorem okA_bm {x y : Int} {v : Value} {l : List Nat} {rx ry : Int} {rv : Value} {rl : List Nat} {w : World} (hb : MpS w x y v l) (hr : MpS w rx ry rv rl) (h : okA x y l rx ry rl = true) : ∃ (W H V U : Nat), x = W ∧ y = H ∧ rx = V ∧ ry = U ∧ Bm w v W H (pixOf W l) ∧ Bm w rv V U (pixOf V rl) := by
  unfold okA at h
  simp only [Bool.and_eq_true] at h
  obtain ⟨W, H, rfl, rfl, _, h1⟩ := valid_bm2 h.1 hb.hv hb.hc hb.hlt
  obtain ⟨V, U, rfl, rfl, _, h2⟩ := valid_bm2 h.2 hr.hv hr.hc hr.hlt
  exact ⟨W, H, V, U, rfl, rfl, rfl, rfl, h1, h2⟩

theorem rfencode_all (x y : Int) (v : Value) (l : List Nat) (rx ry : Int) (rv : Value) (rl : List Nat) (dx dy : Int) (w : World) (hb : MpS w x y v l) (hr : MpS w rx ry rv rl) :
    Calls Try.prog 11 #[.agg #[.int .i64 x, .int .i64 y, v], .agg #[.int .i64 rx, .int .i64 ry, rv], .int .i64 dx, .int .i64 dy] w fun e w' => ∃ vf, e = .returned (.tuple #[vf, .int .i64 (encE x y l rx ry rl dx dy)]) ∧ SeenAt w' vf (encB x y l rx ry rl dx dy) ∧ (∀ k, vf.ownBlock = some k → w.heap.size ≤ k) ∧ Fr (fun _ => False) w w' := by
  by_cases he : encE x y l rx ry rl dx dy ≠ 0
  · refine (rfencode_bad x y v l rx ry rv rl dx dy w hb hr he).mono ?_
    rintro e w' ⟨rfl, hf⟩
    refine ⟨_, rfl, ?_, fun k hk => by simp [Value.ownBlock] at hk, hf⟩
    have : encB x y l rx ry rl dx dy = [] := by
      unfold encB
      unfold encE at he
      cases h1 : okA x y l rx ry rl
      · rfl
      · cases h2 : mayS dx dy
        · rfl
        · rw [h1, h2] at he; simp at he
    rw [this]
    exact seenAt_nil w'
  · have he' : encE x y l rx ry rl dx dy = 0 := by omega
    have h1 : okA x y l rx ry rl = true := by
      cases h : okA x y l rx ry rl
      · unfold encE at he'; rw [h] at he'; simp at he'
      · rfl
    have h2 : mayS dx dy = true := by
      cases h : mayS dx dy
      · unfold encE at he'; rw [h1, h] at he'; simp at he'
      · rfl
    rw [he']
    unfold encB encL
    rw [h1, h2]
    obtain ⟨W, H, V, U, rfl, rfl, rfl, rfl, b1, b2⟩ := okA_bm hb hr h1
    have hm := of_decide_eq_true h2
    refine (rfencode_ok W H v _ V U rv _ dx dy w b1 b2 hm.1 hm.2).mono ?_
    rintro e w' ⟨g, n, c, rfl, hs, hf, hg⟩
    exact ⟨_, rfl, hs, fun k hk => by simp [Value.ownBlock] at hk; omega, hf⟩

end Go.Proofs.Ytmfpoabhmpljgaa
