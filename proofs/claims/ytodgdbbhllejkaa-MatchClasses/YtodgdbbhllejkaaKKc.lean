/- 'mayBe' and 'Classes'. -/
import Derived.Test.YtodgdbbhllejkaaKJn
namespace Go.Proofs.Ytodgdbbhllejkaa
open Go.RowKit Go.Maps

theorem BpsAt.kept {w w' : World} {ao : Option Addr} {n : Nat} {A : Nat → Bp} (h : BpsAt w ao n A) (f : Fr (fun _ => False) w w') : BpsAt w' ao n A := by
  refine ⟨h.len, fun hn => ?_, fun j hj => (h.ok j hj).kept f⟩
  obtain ⟨b, off, e, hc⟩ := h.cells hn
  refine ⟨b, off, e, fun j hj => ?_⟩
  obtain ⟨h1, h2, h3⟩ := hc j hj
  have hb := seen_lt h1
  exact ⟨by rw [f.cellEq hb (fun h => h)]; exact h1, by rw [f.cellEq hb (fun h => h)]; exact h2, by rw [f.cellEq hb (fun h => h)]; exact h3⟩
theorem BpOK.good {w : World} {a : Bp} (h : BpOK w a) (ho : okB a = true) : Good a := ⟨ho, h.hlt⟩
/-- May all be? -/
def allB (A : Nat → Bp) (n : Nat) : Bool := decide (∀ j, j < n → okB (A j) = true)

set_option maxRecDepth 100000 in
set_option maxHeartbeats 2000000 in
theorem mayBe_any (ao : Option Addr) (n cap : Nat) (A : Nat → Bp) (w : World) (h : BpsAt w ao n A) :
    Calls Try.prog 31 #[.slice ao n cap] w fun e w' => e = .returned (.bool (allB A n)) ∧ Fr (fun _ => False) w w' := by
  have hn := h.len
  have HB : Hid (∀ w', Fr (fun _ => False) w w' → BpsAt w' ao n A) := fun w' f => h.kept f
  have HC : Hid (∀ w', Fr (fun _ => False) w w' → ∀ j, j < n → Calls Try.prog 39 #[.agg #[.int .i64 (A j).x, .int .i64 (A j).y, (A j).v]] w' fun e w'' => e = .returned (.bool (okB (A j))) ∧ Fr (fun _ => False) w' w'') := fun w' f j hj => by
    have := (HB.out w' f).ok j hj
    exact check_any _ _ _ _ w' this.hx this.hy this.hv this.hlt
  have HCE : Hid (∀ w', Fr (fun _ => False) w w' → ∀ j, j < n → ∃ b off, ao = some ⟨b, off, none⟩ ∧ w'.cell? ⟨b, off + j * 3, none⟩ = some (.int .i64 (A j).x) ∧ w'.cell? ⟨b, off + j * 3 + 1, none⟩ = some (.int .i64 (A j).y) ∧ w'.cell? ⟨b, off + j * 3 + 2, none⟩ = some (A j).v) := fun w' f j hj => by
    obtain ⟨b, off, e, hc⟩ := (HB.out w' f).cells (by omega)
    exact ⟨b, off, e, hc j hj⟩
  have HSL : Hid (∀ j, j < n → ∃ av nv cv, (A j).v = .slice av nv cv) := fun j hj => by
    obtain ⟨av, cv, e, _⟩ := (h.ok j hj).hv
    exact ⟨_, _, _, e⟩
  clear h
  go_enter Try.func31, Try.ntmps31
  go_wp2_with fail
  go_loopg [4, 7] n (fun q _ k wr => ∃ (j : Nat), j + q = n ∧ k = .int .i64 (j : Int) ∧ Hid (∀ k, k < j → okB (A k) = true) ∧ Fr (fun _ => False) w wr)
  case atStart => exact ⟨0, by omega, rfl, fun _ h => absurd h (Nat.not_lt_zero _), Fr.refl _ _⟩
  case round =>
    obtain ⟨j, hjq, rfl, HNO, hfr⟩ := hrel
    have HFr : Hid (Fr (fun _ => False) w wr) := hfr
    clear hfr
    by_cases h1 : j < n
    · have d1 : decide (j < n) = true := decide_eq_true h1
      obtain ⟨b, off, rfl, k0, k1, k2⟩ := HCE.out wr HFr.out j h1
      obtain ⟨av, nv, cv, hv⟩ := HSL.out j h1
      have HCK := HC.out (wr.alloc (.cells #[.int .i64 (A j).x, .int .i64 (A j).y, (A j).v] 48)) (HFr.out.alloc _) j h1
      rw [hv] at HCK k2
      have HCK' : Hid _ := HCK
      have HOK : Hid (∀ b, okB (A j) = b → ∀ k, k < j + 1 → b = true → okB (A k) = true) := fun b hb k hk ht => by
        by_cases e : k = j
        · subst e; rw [hb]; exact ht
        · exact HNO.out k (by omega)
      have HBD : Hid (okB (A j) = false → allB A n = false) := fun hf => decide_eq_false (fun h => by have := h j h1; rw [hf] at this; cases this)
      clear HCK hv
      generalize hx : (A j).x = x at *
      generalize hy : (A j).y = y at *
      clear hx hy
      cases hbb : okB (A j)
      · rw [hbb] at HCK'
        have HBD' : Hid (allB A n = false) := HBD.out hbb
        clear hbb HOK HBD
        go_wp2_with fail
        refine Calls.mono HCK'.out ?_
        rintro e w4 ⟨rfl, hf4⟩
        have HF4 : Hid (Fr (fun _ => False) w w4) := (HFr.out.alloc _).trans hf4 (fun _ _ h => h)
        clear hf4
        go_wp2_with fail
        go_ret
        refine ⟨?_, HF4.out⟩
        rw [HBD'.out]
        rfl
      · rw [hbb] at HCK'
        have HOK' : Hid (∀ k, k < j + 1 → okB (A k) = true) := fun k hk => HOK.out true hbb k hk rfl
        clear hbb HOK HBD
        go_wp2_with fail
        refine Calls.mono HCK'.out ?_
        rintro e w4 ⟨rfl, hf4⟩
        have HF4 : Hid (Fr (fun _ => False) w w4) := (HFr.out.alloc _).trans hf4 (fun _ _ h => h)
        clear hf4
        go_wp2_with fail
        go_roundg (n - (j + 1))
        case measure => omega
        case rel => exact ⟨j + 1, by omega, by go_num, HOK'.out, HF4.out⟩
    · have d1 : decide (j < n) = false := decide_eq_false h1
      have HT : Hid (allB A n = true) := decide_eq_true (fun k hk => HNO.out k (by omega))
      go_wp2_with fail
      go_ret
      refine ⟨?_, HFr.out⟩
      rw [HT.out]
      rfl
end Go.Proofs.Ytodgdbbhllejkaa
