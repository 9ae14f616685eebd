/- The laws' 'light' and 'may'. -/
import Derived.Test.YtodgdbbhllejkaaKKc
namespace Go.Proofs.Ytodgdbbhllejkaa
open Go.RowKit

set_option maxRecDepth 100000 in
set_option maxHeartbeats 2000000 in
theorem light_any (ao : Option Addr) (n cap : Nat) (A : Nat → Bp) (w : World) (h : BpsAt w ao n A) :
    Calls Try.prog 9 #[.slice ao n cap] w fun e w' => ∃ bb, e = .returned (.bool bb) ∧ (bb = true → n ≤ 40) ∧ w' = w := by
  have hn := h.len
  have HCE : Hid (∀ j, j < n → ∃ b off av nv cv, ao = some ⟨b, off, none⟩ ∧ w.cell? ⟨b, off + j * 3 + 2, none⟩ = some (.slice av nv cv)) := fun j hj => by
    obtain ⟨b, off, e, hc⟩ := h.cells (by omega)
    obtain ⟨av, cv, hv, _⟩ := (h.ok j hj).hv
    exact ⟨b, off, av, _, cv, e, by rw [(hc j hj).2.2, hv]⟩
  clear h
  go_enter Try.func9, Try.ntmps9
  go_wp2_with fail
  go_loopg [3, 4] n (fun q x k wr => ∃ (j : Nat) (X : Int), j + q = n ∧ k = .int .i64 (j : Int) ∧ x = .int .i64 X ∧ wr = w)
  case atStart => exact ⟨0, 0, by omega, rfl, rfl, rfl⟩
  case round =>
    obtain ⟨j, X, hjq, rfl, rfl, rfl⟩ := hrel
    by_cases h1 : j < n
    · have d1 : decide (j < n) = true := decide_eq_true h1
      obtain ⟨b, off, av, nv, cv, rfl, k2⟩ := HCE.out j h1
      go_wp2_with fail
      · go_ret
        exact ⟨false, rfl, (fun h => by cases h), rfl⟩
      · go_roundg (n - (j + 1))
        case measure => omega
        case rel => exact ⟨j + 1, _, by omega, by go_num, rfl, rfl⟩
    · have d1 : decide (j < n) = false := decide_eq_false h1
      go_wp2_with fail
      go_ret
      exact ⟨_, rfl, (fun h => by simp at h; omega), rfl⟩

set_option maxRecDepth 100000 in
set_option maxHeartbeats 2000000 in
theorem mays_any (ao : Option Addr) (n cap : Nat) (A : Nat → Bp) (w : World) (h : BpsAt w ao n A) :
    Calls Try.prog 22 #[.slice ao n cap] w fun e w' => ∃ bb, e = .returned (.bool bb) ∧ (bb = true → n ≤ 40 ∧ allB A n = true) ∧ Fr (fun _ => False) w w' := by
  have hn := h.len
  have HB : Hid (∀ w', Fr (fun _ => False) w w' → BpsAt w' ao n A) := fun w' f => h.kept f
  have HC : Hid (∀ w', Fr (fun _ => False) w w' → ∀ j, j < n → Calls Try.prog 28 #[.agg #[.int .i64 (A j).x, .int .i64 (A j).y, (A j).v]] w' fun e w'' => e = .returned (.bool (okB (A j))) ∧ Fr (fun _ => False) w' w'') := fun w' f j hj => by
    have := (HB.out w' f).ok j hj
    exact may_any _ _ _ _ w' this.hx this.hy this.hv this.hlt
  have HLI : Hid (∀ w', Fr (fun _ => False) w w' → Calls Try.prog 9 #[.slice ao n cap] w' fun e w'' => ∃ bb, e = .returned (.bool bb) ∧ (bb = true → n ≤ 40) ∧ w'' = w') := fun w' f => light_any ao n cap A w' (HB.out w' f)
  have HCE : Hid (∀ w', Fr (fun _ => False) w w' → ∀ j, j < n → ∃ b off, ao = some ⟨b, off, none⟩ ∧ w'.cell? ⟨b, off + j * 3, none⟩ = some (.int .i64 (A j).x) ∧ w'.cell? ⟨b, off + j * 3 + 1, none⟩ = some (.int .i64 (A j).y) ∧ w'.cell? ⟨b, off + j * 3 + 2, none⟩ = some (A j).v) := fun w' f j hj => by
    obtain ⟨b, off, e, hc⟩ := (HB.out w' f).cells (by omega)
    exact ⟨b, off, e, hc j hj⟩
  have HSL : Hid (∀ j, j < n → ∃ av nv cv, (A j).v = .slice av nv cv) := fun j hj => by
    obtain ⟨av, cv, e, _⟩ := (h.ok j hj).hv
    exact ⟨_, _, _, e⟩
  clear h
  go_enter Try.func22, Try.ntmps22
  go_wp2_with fail
  go_loopg [3] n (fun q k wr => ∃ (j : Nat), j + q = n ∧ k = .int .i64 (j : Int) ∧ Hid (∀ k, k < j → okB (A k) = true) ∧ Fr (fun _ => False) w wr)
  case atStart => exact ⟨0, by omega, rfl, fun _ h => absurd h (Nat.not_lt_zero _), Fr.refl _ _⟩
  case round =>
    obtain ⟨j, hjq, rfl, HNO, hfr⟩ := hrel
    have HFr : Hid (Fr (fun _ => False) w wr) := hfr
    clear hfr
    by_cases h1 : j < n
    · have d1 : decide (j < n) = true := decide_eq_true h1
      obtain ⟨b, off, rfl, k0, k1, k2⟩ := HCE.out wr HFr.out j h1
      obtain ⟨av, nv, cv, hv⟩ := HSL.out j h1
      have HCK := HC.out wr HFr.out j h1
      rw [hv] at HCK k2
      have HCK' : Hid _ := HCK
      have HOK : Hid (okB (A j) = true → ∀ k, k < j + 1 → okB (A k) = true) := fun hb k hk => by
        by_cases e : k = j
        · subst e; exact hb
        · exact HNO.out k (by omega)
      clear HCK hv
      generalize hx : (A j).x = x at *
      generalize hy : (A j).y = y at *
      clear hx hy
      cases hbb : okB (A j)
      · rw [hbb] at HCK'
        clear hbb HOK
        go_wp2_with fail
        refine Calls.mono HCK'.out ?_
        rintro e w4 ⟨rfl, hf4⟩
        have HF4 : Hid (Fr (fun _ => False) w w4) := HFr.out.trans hf4 (fun _ _ h => h)
        clear hf4
        go_wp2_with fail
        go_ret
        exact ⟨false, rfl, (fun h => by cases h), HF4.out⟩
      · rw [hbb] at HCK'
        have HOK' : Hid (∀ k, k < j + 1 → okB (A k) = true) := fun k hk => HOK.out hbb k hk
        clear hbb HOK
        go_wp2_with fail
        refine Calls.mono HCK'.out ?_
        rintro e w4 ⟨rfl, hf4⟩
        have HF4 : Hid (Fr (fun _ => False) w w4) := HFr.out.trans hf4 (fun _ _ h => h)
        clear hf4
        go_wp2_with fail
        go_roundg (n - (j + 1))
        case measure => omega
        case rel => exact ⟨j + 1, by omega, by go_num, HOK'.out, HF4.out⟩
    · have d1 : decide (j < n) = false := decide_eq_false h1
      have HT : Hid (allB A n = true) := decide_eq_true (fun k hk => HNO.out k (by omega))
      go_wp2_with fail
      refine (HLI.out wr HFr.out).mono ?_
      rintro e w4 ⟨bb, rfl, hb, rfl⟩
      have HBB : Hid (bb = true → n ≤ 40) := hb
      clear hb
      go_wp2_with fail
      go_ret
      exact ⟨bb, rfl, fun h => ⟨HBB.out h, HT.out⟩, HFr.out⟩
end Go.Proofs.Ytodgdbbhllejkaa
