/- Package page: mayHold, lastOfStripe, Stripe. -/
import Derived.Test.YtejempbgpkeheaaPg
namespace Go.Proofs.Ytejempbgpkeheaa
open Go.RowKit

def holdOK (n s : Nat) (y : Int) (h : Nat) : Bool := decide ((n : Int) ≤ y ∧ (s = 0 ∨ y ≤ (n : Int) + s - h))

theorem wr64 {x : Int} (h : -9223372036854775808 ≤ x ∧ x ≤ 9223372036854775807) : wrap64 x = x := by unfold wrap64; omega
theorem wrap_in {x : Int} (h : -9223372036854775808 ≤ x ∧ x ≤ 9223372036854775807) : IntKind.i64.wrap x = x := by
  rw [IntKind.wrap_i64]; omega

set_option maxRecDepth 100000 in
set_option maxHeartbeats 1000000 in
theorem mayHold_any {w : World} {p : Nat} {x0 y0 z0 t0 : Value} {n s : Nat} (h : w.heap[p]? = some (.cells #[x0, y0, z0, .int .i64 s, .int .i64 n, t0] 61 (0, 0))) (y : Int) (hh : Nat) (hn : n ≤ 1048576) (hs : s ≤ 1048576) (h1 : hh ≤ 1048576) :
    Calls Try.prog 33 #[.pointer (some ⟨p, 0, none⟩), .int .i64 y, .int .i64 hh] w fun e w' => e = .returned (.bool (holdOK n s y hh)) ∧ ∃ k, w' = w.drewN k := by
  obtain ⟨c0, c1, c2, c3, c4, c5, cf⟩ := cell_of_six h
  clear h
  by_cases g1 : (n : Int) ≤ y
  · have d1 : decide (y ≥ (n : Int)) = true := decide_eq_true g1
    by_cases g2 : s = 0
    · subst g2
      go_enter Try.func33, Try.ntmps33
      go_wp2_with fail
      go_quiet (fail)
      go_wp2_with fail
      go_ret
      exact ⟨by simp [holdOK, g1], _, rfl⟩
    · have d2 : ((s : Int) == 0) = false := by rw [beq_eq_false_iff_ne]; omega
      have d3 : wrap64 ((n : Int) + (s : Int)) = (n : Int) + (s : Int) := wr64 (by omega)
      have d4 : wrap64 ((n : Int) + (s : Int) - (hh : Int)) = (n : Int) + (s : Int) - (hh : Int) := wr64 (by omega)
      go_enter Try.func33, Try.ntmps33
      go_wp2_with fail
      go_quiet (fail)
      go_wp2_with fail
      go_ret
      exact ⟨by simp [holdOK, g1, g2], _, rfl⟩
  · have d1 : decide (y ≥ (n : Int)) = false := decide_eq_false g1
    go_enter Try.func33, Try.ntmps33
    go_wp2_with fail
    go_quiet (fail)
    go_wp2_with fail
    go_ret
    exact ⟨by simp [holdOK]; omega, _, rfl⟩

def lastRow (n s H : Nat) : Int := min ((n : Int) + s) H - 1

set_option maxRecDepth 100000 in
set_option maxHeartbeats 1000000 in
theorem last_any {w : World} {p : Nat} {x0 z0 t0 : Value} {n s H : Nat} (h : w.heap[p]? = some (.cells #[x0, .int .i64 H, z0, .int .i64 s, .int .i64 n, t0] 61 (0, 0))) (hn : n ≤ 1048576) (hs : s ≤ 1048576) (hH : H ≤ 1048576) :
    Calls Try.prog 37 #[.pointer (some ⟨p, 0, none⟩)] w fun e w' => e = .returned (.int .i64 (lastRow n s H)) ∧ ∃ k, w' = w.drewN k := by
  obtain ⟨c0, c1, c2, c3, c4, c5, cf⟩ := cell_of_six h
  clear h
  have d3 : wrap64 ((n : Int) + (s : Int)) = (n : Int) + (s : Int) := wr64 (by omega)
  have d5 : wrap64 ((H : Int) - 1) = (H : Int) - 1 := wr64 (by omega)
  have d6 : wrap64 ((n : Int) + (s : Int) - 1) = (n : Int) + (s : Int) - 1 := wr64 (by omega)
  by_cases g : (n : Int) + (s : Int) ≤ (H : Int)
  · go_enter Try.func37, Try.ntmps37
    go_wp2_with fail
    go_quiet (fail)
    go_wp2_with fail
    go_ret
    exact ⟨by show _ = Ending.returned (.int .i64 (lastRow n s H)); unfold lastRow; rw [Int.min_eq_left g]; rfl, _, rfl⟩
  · go_enter Try.func37, Try.ntmps37
    go_wp2_with fail
    go_quiet (fail)
    go_wp2_with fail
    go_ret
    exact ⟨by show _ = Ending.returned (.int .i64 (lastRow n s H)); unfold lastRow; rw [Int.min_eq_right (by omega)]; rfl, _, rfl⟩

/-- What Stripe takes. -/
def stripeOK (n s H : Nat) (last : Int) : Bool := decide (s ≠ 0 ∧ n ≠ H ∧ last = lastRow n s H)

set_option maxRecDepth 100000 in
set_option maxHeartbeats 1000000 in
theorem stripe_no {w : World} {p : Nat} {x0 z0 t0 : Value} {n s H : Nat} (h : w.heap[p]? = some (.cells #[x0, .int .i64 H, z0, .int .i64 s, .int .i64 n, t0] 61 (0, 0))) (last : Int) (hn : n ≤ 1048576) (hs : s ≤ 1048576) (hH : H ≤ 1048576) (hno : stripeOK n s H last = false) :
    Calls Try.prog 14 #[.pointer (some ⟨p, 0, none⟩), .int .i64 last] w fun e w' => e = .returned (.int .i64 151) ∧ ∃ k, w' = w.drewN k := by
  have HL : Hid (∀ m, Calls Try.prog 37 #[.pointer (some ⟨p, 0, none⟩)] (w.drewN m) fun e w' => e = .returned (.int .i64 (lastRow n s H)) ∧ ∃ k, w' = w.drewN k) := fun m =>
    (last_any (w := w.drewN m) h hn hs hH).mono fun e w' ⟨he, k, hk⟩ => ⟨he, m + k, by rw [hk, World.drewN_drewN]⟩
  obtain ⟨c0, c1, c2, c3, c4, c5, cf⟩ := cell_of_six h
  clear h
  by_cases g1 : s = 0
  · subst g1
    clear hno
    go_enter Try.func14, Try.ntmps14
    go_wp2_with fail
    go_quiet (fail)
    go_wp2_with fail
    go_ret
    exact ⟨rfl, _, rfl⟩
  · have d1 : ((s : Int) == 0) = false := by rw [beq_eq_false_iff_ne]; omega
    by_cases g2 : n = H
    · subst g2
      clear hno
      go_enter Try.func14, Try.ntmps14
      go_wp2_with fail
      go_quiet (fail)
      go_wp2_with fail
      go_ret
      exact ⟨rfl, _, rfl⟩
    · have d2 : ((n : Int) == (H : Int)) = false := by rw [beq_eq_false_iff_ne]; omega
      have d3 : (last != lastRow n s H) = true := by
        rw [bne_iff_ne]; intro e
        simp [stripeOK, g1, g2, e] at hno
      clear hno hn hs hH g1 g2
      go_enter Try.func14, Try.ntmps14
      go_wp2_with fail
      go_quiet (first | (go_at_call 37; exact HL.out _))
      go_wp2_with fail
      go_ret
      exact ⟨rfl, _, rfl⟩

theorem set_four (w : World) (p : Nat) (x y z u v t v' : Value) (ty : TypeId) (h : w.heap[p]? = some (.cells #[x, y, z, u, v, t] ty (0, 0))) : (w.setCell ⟨p, 4, none⟩ v').heap[p]? = some (.cells #[x, y, z, u, v', t] ty (0, 0)) := by
  simp [World.setCell, Array.getElem?_modify, h]

set_option maxRecDepth 100000 in
set_option maxHeartbeats 1000000 in
theorem stripe_ok {w : World} {p b g cap W H d s n : Nat} {P : Nat → Nat → Bool} (h : PgAt w p b g cap W H d s n P) (last : Int) (hok : stripeOK n s H last = true) :
    Calls Try.prog 14 #[.pointer (some ⟨p, 0, none⟩), .int .i64 last] w fun e w' => e = .returned (.int .i64 0) ∧ PgAt w' p b g cap W H d s (min (n + s) H) P ∧ Fr (fun k => k = p) w w' := by
  obtain ⟨f1, f2, f3⟩ := size_facts h.map.wpos h.map.hpos h.map.area
  have hn : n ≤ 1048576 := Nat.le_trans h.nl f2
  have hs := h.sl
  have HL : Hid (∀ m, Calls Try.prog 37 #[.pointer (some ⟨p, 0, none⟩)] (w.drewN m) fun e w' => e = .returned (.int .i64 (lastRow n s H)) ∧ ∃ k, w' = w.drewN k) := fun m =>
    (last_any (w := w.drewN m) h.blk hn hs f2).mono fun e w' ⟨he, k, hk⟩ => ⟨he, m + k, by rw [hk, World.drewN_drewN]⟩
  obtain ⟨c0, c1, c2, c3, c4, c5, cf⟩ := cell_of_six h.blk
  have HA : Hid (PgAt w p b g cap W H d s n P) := h
  clear h f3
  simp only [stripeOK, decide_eq_true_eq] at hok
  obtain ⟨g1, g2, rfl⟩ := hok
  have d1 : ((s : Int) == 0) = false := by rw [beq_eq_false_iff_ne]; omega
  have d2 : ((n : Int) == (H : Int)) = false := by rw [beq_eq_false_iff_ne]; omega
  have d3 : (lastRow n s H != lastRow n s H) = false := by simp
  have d4 : wrap64 (lastRow n s H + 1) = lastRow n s H + 1 := wr64 (by unfold lastRow; omega)
  have HE : Hid (lastRow n s H + 1 = ((min (n + s) H : Nat) : Int)) := by show _ = _; unfold lastRow; omega
  clear hn hs g1 g2 f1 f2
  generalize lastRow n s H = L at *
  go_enter Try.func14, Try.ntmps14
  go_wp2_with fail
  go_quiet (first | (go_at_call 37; exact HL.out _))
  go_wp2_with fail
  go_ret
  refine ⟨rfl, ⟨?_, ?_, HA.out.pg, Nat.min_le_right _ _, HA.out.sl⟩, ?_⟩
  · rw [HE.out]; exact set_four _ _ _ _ _ _ _ _ _ _ HA.out.blk
  · exact HA.out.map.kept (S := fun k => k = p) (Fr.setCell (p := ⟨p, 4, none⟩) ((Fr.refl (fun k => k = p) w).drewN _) (fun _ => rfl) _) (fun e => HA.out.pb e.symm) (fun e => HA.out.pg e.symm)
  · exact Fr.setCell (p := ⟨p, 4, none⟩) ((Fr.refl (fun k => k = p) w).drewN _) (fun _ => rfl) _

end Go.Proofs.Ytejempbgpkeheaa
