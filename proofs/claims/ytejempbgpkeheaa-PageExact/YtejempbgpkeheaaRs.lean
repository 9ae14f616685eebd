/- The reference's page: Stripe. -/
import Derived.Test.YtejempbgpkeheaaRp
namespace Go.Proofs.Ytejempbgpkeheaa
open Go.RowKit

/-- What the reference's Stripe takes. -/
def rstripeOK (n s H : Nat) (dn : Bool) (last : Int) : Bool := !dn && stripeOK n s H last

theorem rs_due {n s H : Nat} (hn : n ≤ 1048576) (hs : s ≤ 1048576) (hH : H ≤ 1048576) : wrap64 ((n : Int) + (s : Int)) = (n : Int) + (s : Int) ∧ wrap64 ((n : Int) + (s : Int) - 1) = (n : Int) + (s : Int) - 1 ∧ wrap64 ((H : Int) - 1) = (H : Int) - 1 := ⟨wr64 (by omega), wr64 (by omega), wr64 (by omega)⟩
theorem rs_gt {n s H : Nat} (g : (H : Int) - 1 < (n : Int) + (s : Int) - 1) : lastRow n s H = (H : Int) - 1 := by unfold lastRow; omega
theorem rs_le {n s H : Nat} (g : ¬ (H : Int) - 1 < (n : Int) + (s : Int) - 1) : lastRow n s H = (n : Int) + (s : Int) - 1 := by unfold lastRow; omega

set_option maxRecDepth 100000 in
set_option maxHeartbeats 2000000 in
theorem rstripe_no {w : World} {r g N W H d s n : Nat} {dn : Bool} {P : Nat → Nat → Bool} (h : RpAt w r g N W H d s n dn P) (last : Int) (hno : rstripeOK n s H dn last = false) :
    Calls Try.prog 15 #[.pointer (some ⟨r, 0, none⟩), .int .i64 last] w fun e w' => e = .returned (.int .i64 151) ∧ Fr (fun _ => False) w w' := by
  obtain ⟨f1, f2, f3⟩ := size_facts h.w1 h.h1 h.a1
  obtain ⟨a1, a2, a3⟩ := rs_due (Nat.le_trans h.nl f2) h.sl f2
  obtain ⟨c0, c1, c2, c3, c4, c5, c6, c7, c8, cf⟩ := cell_of_nine h.blk
  clear h f1 f2 f3 cf c0 c2 c4 c5 c6
  by_cases gg : (H : Int) - 1 < (n : Int) + (s : Int) - 1
  · have d1 : decide ((H : Int) - 1 < (n : Int) + (s : Int) - 1) = true := decide_eq_true gg
    have e0 := rs_gt gg
    go_enter Try.func15, Try.ntmps15
    go_wp2_with fail
    go_quiet (fail)
    go_wp2_with fail
    cases dn with
    | true =>
      clear hno
      go_quiet (fail)
      go_wp2_with fail
      go_ret
      exact ⟨rfl, ((Fr.refl _ _).drewN _).drewN _⟩
    | false =>
      by_cases g1 : s = 0
      · subst g1
        clear hno
        go_quiet (fail)
        go_wp2_with fail
        go_ret
        exact ⟨rfl, ((Fr.refl _ _).drewN _).drewN _⟩
      · have b1 : ((s : Int) == 0) = false := by rw [beq_eq_false_iff_ne]; omega
        by_cases g2 : n = H
        · subst g2
          clear hno
          go_quiet (fail)
          go_wp2_with fail
          go_ret
          exact ⟨rfl, ((Fr.refl _ _).drewN _).drewN _⟩
        · have b2 : ((n : Int) == (H : Int)) = false := by rw [beq_eq_false_iff_ne]; omega
          have b3 : (last != ((H : Int) - 1)) = true := by
            rw [bne_iff_ne]; intro e
            simp [rstripeOK, stripeOK, g1, g2, e0, e] at hno
          clear hno g1 g2 e0
          go_quiet (fail)
          go_wp2_with fail
          go_ret
          exact ⟨rfl, ((Fr.refl _ _).drewN _).drewN _⟩
  · have d1 : decide ((H : Int) - 1 < (n : Int) + (s : Int) - 1) = false := decide_eq_false gg
    have e0 := rs_le gg
    go_enter Try.func15, Try.ntmps15
    go_wp2_with fail
    go_quiet (fail)
    go_wp2_with fail
    cases dn with
    | true =>
      clear hno
      go_quiet (fail)
      go_wp2_with fail
      go_ret
      exact ⟨rfl, ((Fr.refl _ _).drewN _).drewN _⟩
    | false =>
      by_cases g1 : s = 0
      · subst g1
        clear hno
        go_quiet (fail)
        go_wp2_with fail
        go_ret
        exact ⟨rfl, ((Fr.refl _ _).drewN _).drewN _⟩
      · have b1 : ((s : Int) == 0) = false := by rw [beq_eq_false_iff_ne]; omega
        by_cases g2 : n = H
        · subst g2
          clear hno
          go_quiet (fail)
          go_wp2_with fail
          go_ret
          exact ⟨rfl, ((Fr.refl _ _).drewN _).drewN _⟩
        · have b2 : ((n : Int) == (H : Int)) = false := by rw [beq_eq_false_iff_ne]; omega
          have b3 : (last != ((n : Int) + (s : Int) - 1)) = true := by
            rw [bne_iff_ne]; intro e
            simp [rstripeOK, stripeOK, g1, g2, e0, e] at hno
          clear hno g1 g2 e0
          go_quiet (fail)
          go_wp2_with fail
          go_ret
          exact ⟨rfl, ((Fr.refl _ _).drewN _).drewN _⟩

theorem set_seven (w : World) (p : Nat) (x0 x1 x2 x3 x4 x5 x6 x7 x8 v' : Value) (ty : TypeId) (h : w.heap[p]? = some (.cells #[x0, x1, x2, x3, x4, x5, x6, x7, x8] ty (0, 0))) : (w.setCell ⟨p, 7, none⟩ v').heap[p]? = some (.cells #[x0, x1, x2, x3, x4, x5, x6, v', x8] ty (0, 0)) := by
  simp [World.setCell, Array.getElem?_modify, h]
theorem set_eight (w : World) (p : Nat) (x0 x1 x2 x3 x4 x5 x6 x7 x8 v' : Value) (ty : TypeId) (h : w.heap[p]? = some (.cells #[x0, x1, x2, x3, x4, x5, x6, x7, x8] ty (0, 0))) : (w.setCell ⟨p, 8, none⟩ v').heap[p]? = some (.cells #[x0, x1, x2, x3, x4, x5, x6, x7, v'] ty (0, 0)) := by
  simp [World.setCell, Array.getElem?_modify, h]

set_option maxRecDepth 100000 in
set_option maxHeartbeats 2000000 in
theorem rstripe_ok {w : World} {r g N W H d s n : Nat} {P : Nat → Nat → Bool} (h : RpAt w r g N W H d s n false P) (last : Int) (hok : stripeOK n s H last = true) :
    Calls Try.prog 15 #[.pointer (some ⟨r, 0, none⟩), .int .i64 last] w fun e w' => e = .returned (.int .i64 0) ∧ RpAt w' r g N W H d s (min (n + s) H) false P ∧ Fr (fun k => k = r) w w' := by
  obtain ⟨f1, f2, f3⟩ := size_facts h.w1 h.h1 h.a1
  obtain ⟨a1, a2, a3⟩ := rs_due (Nat.le_trans h.nl f2) h.sl f2
  obtain ⟨c0, c1, c2, c3, c4, c5, c6, c7, c8, cf⟩ := cell_of_nine h.blk
  have HA : Hid (RpAt w r g N W H d s n false P) := h
  have HNN : Hid (n ≤ 1048576 ∧ s ≤ 1048576 ∧ H ≤ 1048576) := ⟨Nat.le_trans h.nl f2, h.sl, f2⟩
  clear h f1 f2 f3 c0 c2 c4 c5 c6
  simp only [stripeOK, decide_eq_true_eq] at hok
  obtain ⟨g1, g2, hlast⟩ := hok
  have b1 : ((s : Int) == 0) = false := by rw [beq_eq_false_iff_ne]; omega
  have b2 : ((n : Int) == (H : Int)) = false := by rw [beq_eq_false_iff_ne]; omega
  have HE0 : Hid (lastRow n s H + 1 = ((min (n + s) H : Nat) : Int)) := by show _ = _; unfold lastRow; omega
  have HW : Hid (wrap64 (lastRow n s H + 1) = lastRow n s H + 1) := wr64 (by have := HNN.out; unfold lastRow; omega)
  by_cases gg : (H : Int) - 1 < (n : Int) + (s : Int) - 1
  · have d1 : decide ((H : Int) - 1 < (n : Int) + (s : Int) - 1) = true := decide_eq_true gg
    rw [rs_gt gg] at hlast HE0 HW
    subst hlast
    have HE : Hid (wrap64 (H : Int) = ((min (n + s) H : Nat) : Int)) := by have e1 := HE0.out; have e2 := HNN.out; show _ = _; rw [wr64 (by omega)]; omega
    have d4 : wrap64 ((H : Int) - 1 + 1) = (H : Int) - 1 + 1 := HW.out
    have b3 : ((H : Int) - 1 != (H : Int) - 1) = false := by simp
    clear g1 g2 HW HE0
    go_enter Try.func15, Try.ntmps15
    go_wp2_with fail
    go_quiet (fail)
    go_wp2_with fail
    go_quiet (fail)
    go_wp2_with fail
    go_ret
    refine ⟨rfl, ⟨?_, HA.out.row.kept (S := fun k => k = r) (Fr.setCell (p := ⟨r, 7, none⟩) ((Fr.refl (fun k => k = r) w).drewN _) (fun _ => rfl) _) (fun e => HA.out.rg e.symm), HA.out.rg, HA.out.w1, HA.out.h1, HA.out.a1, Nat.min_le_right _ _, HA.out.sl⟩, Fr.setCell (p := ⟨r, 7, none⟩) ((Fr.refl (fun k => k = r) w).drewN _) (fun _ => rfl) _⟩
    rw [HE.out]; exact set_seven _ _ _ _ _ _ _ _ _ _ _ _ _ HA.out.blk
  · have d1 : decide ((H : Int) - 1 < (n : Int) + (s : Int) - 1) = false := decide_eq_false gg
    rw [rs_le gg] at hlast HE0 HW
    subst hlast
    have HE : Hid ((n : Int) + (s : Int) = ((min (n + s) H : Nat) : Int)) := by have e1 := HE0.out; show _ = _; omega
    have d4 : wrap64 ((n : Int) + (s : Int) - 1 + 1) = (n : Int) + (s : Int) - 1 + 1 := HW.out
    have b3 : ((n : Int) + (s : Int) - 1 != (n : Int) + (s : Int) - 1) = false := by simp
    clear g1 g2 HW HE0
    go_enter Try.func15, Try.ntmps15
    go_wp2_with fail
    go_quiet (fail)
    go_wp2_with fail
    go_quiet (fail)
    go_wp2_with fail
    go_ret
    refine ⟨rfl, ⟨?_, HA.out.row.kept (S := fun k => k = r) (Fr.setCell (p := ⟨r, 7, none⟩) ((Fr.refl (fun k => k = r) w).drewN _) (fun _ => rfl) _) (fun e => HA.out.rg e.symm), HA.out.rg, HA.out.w1, HA.out.h1, HA.out.a1, Nat.min_le_right _ _, HA.out.sl⟩, Fr.setCell (p := ⟨r, 7, none⟩) ((Fr.refl (fun k => k = r) w).drewN _) (fun _ => rfl) _⟩
    rw [HE.out]; exact set_seven _ _ _ _ _ _ _ _ _ _ _ _ _ HA.out.blk

end Go.Proofs.Ytejempbgpkeheaa
