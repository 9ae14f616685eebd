/- 'EqRuns' of equal ones. -/
import Derived.Test.YthliacfkmpijmaaMb
namespace Go.Proofs.Ythliacfkmpijmaa
open Go.RowKit

theorem SeenRR.row {w : World} {v : Value} {L : List (List (Int × Int))} (h : SeenRR w v L) : ∃ ao cap, v = .slice ao L.length cap ∧ ∀ j, j < L.length → ∃ b off ao1 cap1, ao = some ⟨b, off, none⟩ ∧ (L[j]?.getD []).length ≤ 9223372036854775807 ∧ ∀ w', Fr (fun _ => False) w w' → w'.cell? ⟨b, off + j, none⟩ = some (.slice ao1 (L[j]?.getD []).length cap1) ∧ ∀ k, k < (L[j]?.getD []).length → ∃ b1 off1, ao1 = some ⟨b1, off1, none⟩ ∧ w'.cell? ⟨b1, off1 + k * 2, none⟩ = some (.int .i64 ((L[j]?.getD [])[k]?.getD (0, 0)).1) ∧ w'.cell? ⟨b1, off1 + k * 2 + 1, none⟩ = some (.int .i64 ((L[j]?.getD [])[k]?.getD (0, 0)).2) := by
  obtain ⟨ao, cap, e, hl, hc⟩ := h
  refine ⟨ao, cap, e, fun j hj => ?_⟩
  obtain ⟨b, off, e2, hcc⟩ := hc (by intro e; rw [e] at hj; simp at hj)
  obtain ⟨u, h0, ao1, cap1, rfl, hl1, hc1⟩ := hcc j hj
  refine ⟨b, off, ao1, cap1, e2, hl1, fun w' f => ⟨by rw [f.cellEq (seen_lt h0) (fun h => h)]; exact h0, fun k hk => ?_⟩⟩
  obtain ⟨b1, off1, e3, hcc1⟩ := hc1 (by intro e; rw [e] at hk; simp at hk)
  obtain ⟨k0, k1⟩ := hcc1 k hk
  exact ⟨b1, off1, e3, by rw [f.cellEq (seen_lt k0) (fun h => h)]; exact k0, by rw [f.cellEq (seen_lt k1) (fun h => h)]; exact k1⟩

set_option maxRecDepth 100000 in
set_option maxHeartbeats 4000000 in
theorem eqRuns_same (v u : Value) (L : List (List (Int × Int))) (w : World) (hv : SeenRR w v L) (hu : SeenRR w u L) :
    Calls Try.prog 12 #[v, u] w fun e w' => e = .returned (.bool true) ∧ Fr (fun _ => False) w w' := by
  have hL : L.length ≤ 9223372036854775807 := by obtain ⟨_, _, _, h, _⟩ := hv; exact h
  obtain ⟨ao, cap, rfl, ha⟩ := hv.row
  obtain ⟨bo, cap', rfl, hb⟩ := hu.row
  have HA : Hid (∀ j, j < L.length → ∃ b off ao1 cap1, ao = some ⟨b, off, none⟩ ∧ (L[j]?.getD []).length ≤ 9223372036854775807 ∧ ∀ w', Fr (fun _ => False) w w' → w'.cell? ⟨b, off + j, none⟩ = some (.slice ao1 (L[j]?.getD []).length cap1) ∧ ∀ k, k < (L[j]?.getD []).length → ∃ b1 off1, ao1 = some ⟨b1, off1, none⟩ ∧ w'.cell? ⟨b1, off1 + k * 2, none⟩ = some (.int .i64 ((L[j]?.getD [])[k]?.getD (0, 0)).1) ∧ w'.cell? ⟨b1, off1 + k * 2 + 1, none⟩ = some (.int .i64 ((L[j]?.getD [])[k]?.getD (0, 0)).2)) := ha
  have HB : Hid (∀ j, j < L.length → ∃ b off ao1 cap1, bo = some ⟨b, off, none⟩ ∧ (L[j]?.getD []).length ≤ 9223372036854775807 ∧ ∀ w', Fr (fun _ => False) w w' → w'.cell? ⟨b, off + j, none⟩ = some (.slice ao1 (L[j]?.getD []).length cap1) ∧ ∀ k, k < (L[j]?.getD []).length → ∃ b1 off1, ao1 = some ⟨b1, off1, none⟩ ∧ w'.cell? ⟨b1, off1 + k * 2, none⟩ = some (.int .i64 ((L[j]?.getD [])[k]?.getD (0, 0)).1) ∧ w'.cell? ⟨b1, off1 + k * 2 + 1, none⟩ = some (.int .i64 ((L[j]?.getD [])[k]?.getD (0, 0)).2)) := hb
  clear ha hb hv hu
  obtain ⟨H, hH⟩ : ∃ H, H = L.length := ⟨_, rfl⟩
  have HH : Hid (H = L.length) := hH
  rw [← hH] at hL ⊢
  clear hH
  have hne : ((H : Int) != (H : Int)) = false := by simp
  go_enter Try.func12, Try.ntmps12
  go_wp2_with fail
  go_loopg [5, 6] H (fun q i k wr => ∃ y : Nat, y + q = H ∧ i = .int .i64 y ∧ Fr (fun _ => False) w wr)
  case atStart => exact ⟨0, by omega, rfl, Fr.refl _ _⟩
  case round =>
    obtain ⟨y, hyq, rfl, hfr⟩ := hrel
    have HFr : Hid (Fr (fun _ => False) w wr) := hfr
    clear hfr
    by_cases hyH : y < H
    · have hdy : decide (y < H) = true := decide_eq_true hyH
      obtain ⟨b, off, ao1, cap1, rfl, hl1, hA⟩ := HA.out y (by have := HH.out; omega)
      obtain ⟨b', off', bo1, cap1', rfl, hl1', hB⟩ := HB.out y (by have := HH.out; omega)
      have HA1 := fun w' f => (hA w' f).2
      have HB1 := fun w' f => (hB w' f).2
      have HAc : Hid (∀ w', Fr (fun _ => False) w w' → w'.cell? ⟨b, off + y, none⟩ = some (.slice ao1 (L[y]?.getD []).length cap1) ∧ w'.cell? ⟨b', off' + y, none⟩ = some (.slice bo1 (L[y]?.getD []).length cap1')) := fun w' f => ⟨(hA w' f).1, (hB w' f).1⟩
      have HK : Hid (∀ w', Fr (fun _ => False) w w' → ∀ k, k < (L[y]?.getD []).length → ∃ b1 off1 b2 off2 A B, ao1 = some ⟨b1, off1, none⟩ ∧ bo1 = some ⟨b2, off2, none⟩ ∧ w'.cell? ⟨b1, off1 + k * 2, none⟩ = some (.int .i64 A) ∧ w'.cell? ⟨b1, off1 + k * 2 + 1, none⟩ = some (.int .i64 B) ∧ w'.cell? ⟨b2, off2 + k * 2, none⟩ = some (.int .i64 A) ∧ w'.cell? ⟨b2, off2 + k * 2 + 1, none⟩ = some (.int .i64 B)) := fun w' f k hk => by
        obtain ⟨b1, off1, e1, a0, a1⟩ := HA1 w' f k hk
        obtain ⟨b2, off2, e2, a2, a3⟩ := HB1 w' f k hk
        exact ⟨b1, off1, b2, off2, _, _, e1, e2, a0, a1, a2, a3⟩
      clear hA hB HA1 HB1 hl1'
      generalize (L[y]?.getD []).length = n at *
      obtain ⟨c1, c2⟩ := HAc.out wr HFr.out
      have hnn : ((n : Int) != (n : Int)) = false := by simp
      go_wp2_with fail
      go_quiet (fail)
      have HF2 : Hid (Fr (fun _ => False) w (wr.drewN nq)) := HFr.out.drewN _
      clear c1 c2
      go_wp2_with fail
      generalize wr.drewN nq = w2 at *
      go_loopg [6] n (fun q i wr => ∃ k : Nat, k + q = n ∧ i = .int .i64 k ∧ Fr (fun _ => False) w wr)
      case atStart => exact ⟨0, by omega, rfl, HF2.out⟩
      case round =>
        clear HF2 HFr
        obtain ⟨k, hkq, rfl, hfr⟩ := hrel
        have HFk : Hid (Fr (fun _ => False) w wr) := hfr
        clear hfr
        obtain ⟨c1, c2⟩ := HAc.out wr HFk.out
        by_cases hkn : k < n
        · have hdk : decide (k < n) = true := decide_eq_true hkn
          obtain ⟨b1, off1, b2, off2, A, B, rfl, rfl, a0, a1, a2, a3⟩ := HK.out wr HFk.out k hkn
          go_wp2_with fail
          go_quiet (fail)
          have HF3 : Hid (Fr (fun _ => False) w (wr.drewN nq)) := HFk.out.drewN _
          clear c1 c2 a0 a1 a2 a3
          go_wp2_with fail
          go_roundg (n - (k + 1))
          case measure => omega
          case rel => exact ⟨k + 1, by omega, congrArg (Value.int .i64) (by omega), HF3.out⟩
        · have hdk : decide (k < n) = false := decide_eq_false hkn
          go_wp2_with fail
          go_roundg (H - (y + 1))
          case measure => omega
          case rel => exact ⟨y + 1, by omega, congrArg (Value.int .i64) (by omega), HFk.out⟩
    · have hdy : decide (y < H) = false := decide_eq_false hyH
      go_wp2_with fail
      go_ret
      exact ⟨rfl, HFr.out⟩

end Go.Proofs.Ythliacfkmpijmaa
