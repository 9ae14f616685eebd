/- 'gather' at words. -/
import Derived.Test.YtamonbkhpbdojaaDoorGather
namespace Go.Proofs.YtamonbkhpbdojaaDoor
set_option maxRecDepth 100000
open Go.RowKit

theorem wrapu64_nat (a : Nat) (h : a < 18446744073709551616) : IntKind.u64.wrap (a : Int) = (a : Int) := by
  rw [IntKind.wrap_u64]; omega

theorem gat64 (n x s u t : Nat) (h : n * 2 ^ s < 2 ^ 64) : bits .or .u64 (IntKind.u64.wrap ((n : Int) * 2 ^ s)) (IntKind.u64.wrap ((x : Int) * 2 ^ u % 256 / 2 ^ t)) = ((n * 2 ^ s ||| x * 2 ^ u % 256 / 2 ^ t : Nat) : Int) := by
  have hx : x * 2 ^ u % 256 / 2 ^ t < 256 := Nat.lt_of_le_of_lt (Nat.div_le_self _ _) (Nat.mod_lt _ (by omega))
  have e1 : ((n : Int) * 2 ^ s) = ((n * 2 ^ s : Nat) : Int) := by simp
  have e2 : ((x : Int) * 2 ^ u % 256 / 2 ^ t) = ((x * 2 ^ u % 256 / 2 ^ t : Nat) : Int) := by simp
  rw [e1, e2, wrapu64_nat _ h, wrapu64_nat _ (by omega)]
  exact u64_or_nat _ _ h (by omega)

set_option maxRecDepth 100000 in
set_option maxHeartbeats 1000000 in
theorem gather64_end (br : Nat) (v : Value) (l : List Nat) (pos wd : Nat) (w : World) (h : RAt w br v l pos) (_hw : wd ≤ 64) (hf : 8 * l.length < pos + wd) :
    Calls Tryd.prog 75 #[.pointer (some ⟨br, 0, none⟩), .int .i64 wd] w fun e w' => e = .returned (.tuple #[.int .u64 0, .int .i64 14]) ∧ ∃ q, w' = w.drewN q := by
  have HA : Hid (RAt w br v l pos) := h
  have hle := h.le
  clear h
  go_enter Tryd.func75, Tryd.ntmps75
  go_wp2_with fail
  refine (left_any br v l pos _ HA.out).mono ?_
  rintro e w1 ⟨rfl, q, rfl⟩
  go_wp2_with fail
  go_ret2
  exact ⟨rfl, _, rfl⟩

set_option maxRecDepth 100000 in
set_option maxHeartbeats 1000000 in
theorem gather64_any (br : Nat) (v : Value) (l : List Nat) (pos wd : Nat) (w : World) (h : RAt w br v l pos) (hw : wd ≤ 64) (hf : pos + wd ≤ 8 * l.length) :
    Calls Tryd.prog 75 #[.pointer (some ⟨br, 0, none⟩), .int .i64 wd] w fun e w' => e = .returned (.tuple #[.int .u64 (num (nextBits l pos wd)), .int .i64 0]) ∧ RAt w' br v l (pos + wd) ∧ Fr (fun k => k = br) w w' := by
  have HA : Hid (RAt w br v l pos) := h
  have hle := h.le
  have hlim := h.lim
  clear h
  go_enter Tryd.func75, Tryd.ntmps75
  go_wp2_with fail
  refine (left_any br v l pos _ HA.out).mono ?_
  rintro e w1 ⟨rfl, q, rfl⟩
  have hlf : wd ≤ 8 * l.length - pos := by omega
  generalize 8 * l.length - pos = lf at hlf
  have ht : decide (lf < wd) = false := by simp; omega
  go_wp2_with fail
  go_loopw [1, 6, 7, 8] (fun t n _ _ wr => ∃ k : Nat, k ≤ wd ∧ t = .int .i64 k ∧ n = .int .u64 (num (nextBits l pos (wd - k))) ∧ RAt wr br v l (pos + (wd - k)) ∧ Fr (fun k => k = br) w wr) (fun t _ _ _ _ => (intOf t).toNat)
  case atStart => exact ⟨wd, Nat.le_refl _, rfl, by rw [Nat.sub_self]; rfl, by rw [Nat.sub_self]; exact HA.out.drewN _, (Fr.refl _ _).drewN _⟩
  case round =>
    obtain ⟨k, hk, rfl, rfl, hat, hfr⟩ := hrel
    have HS : Hid (Fr (fun k => k = br) w wr) := hfr
    have HR : Hid (RAt wr br v l (pos + (wd - k))) := hat
    by_cases hlt : 0 < k
    · obtain ⟨c0, c1, cf⟩ := cell_of_two hat.blk
      obtain ⟨g, cap, rfl, _, hc, hm⟩ := row_form hat.own (by omega)
      have hcx : wr.cell? ⟨g, (pos + (wd - k)) / 8, none⟩ = some (.int .u8 (l[(pos + (wd - k)) / 8]?.getD 0)) := by
        rw [hat.own.cellAt _ (by omega), byteCells_get, List.getElem?_eq_getElem (by omega)]; rfl
      have HM : Hid (∀ s, 0 < s → s ≤ k → s + (pos + (wd - k)) % 8 ≤ 8 → num (nextBits l pos (wd - (k - s))) = (num (nextBits l pos (wd - k)) * 2 ^ s ||| l[(pos + (wd - k)) / 8]?.getD 0 * 2 ^ ((pos + (wd - k)) % 8) % 256 / 2 ^ (8 - s))) := fun s h1 h2 h3 => by
        rw [show wd - (k - s) = wd - k + s from by omega]; exact num_step l pos (wd - k) s (by omega) h1 h3
      have hx : l[(pos + (wd - k)) / 8]?.getD 0 < 256 := by
        rw [List.getElem?_eq_getElem (by omega)]
        exact hat.byt _ (List.getElem_mem _)
      have hNl : Hid (num (nextBits l pos (wd - k)) < 2 ^ (wd - k)) := by
        have := num_lt (nextBits l pos (wd - k)); rw [length_nextBits _ _ _ (by omega)] at this; exact this
      have HPe : Hid (∀ s, s ≤ k → pos + (wd - (k - s)) = pos + (wd - k) + s) := fun s hs => by omega
      generalize l[(pos + (wd - k)) / 8]?.getD 0 = X at hcx hx HM
      have hPle : pos + (wd - k) + k ≤ 8 * l.length := by omega
      generalize pos + (wd - k) = P at c1 hcx HR HM HPe hPle
      generalize num (nextBits l pos (wd - k)) = N at HM hNl ⊢
      clear hat hfr
      unfold maxLen at hm
      by_cases hmn : k ≤ 8 - P % 8
      · go_wp2
        go_quiet (fail)
        go_wp2
        go_roundw
        case rel => exact ⟨k - k, by omega, by rw [Nat.sub_self]; rfl, by rw [HM.out k hlt (Nat.le_refl _) (by omega)]; exact congrArg (Value.int .u64) (gat64 N X k _ _ (shift_lt N _ _ 64 hNl.out (by omega))), by rw [HPe.out k (Nat.le_refl _)]; exact (HR.out.drewN nq).moved (by omega) (by omega), (HS.out.drewN nq).setCell (fun _ => rfl) _⟩
        case measure => simp [intOf]; omega
      · go_wp2
        go_quiet (fail)
        go_wp2
        go_roundw
        case rel => exact ⟨k - (8 - P % 8), by omega, congrArg (Value.int .i64) (by omega), by rw [HM.out (8 - P % 8) (by omega) (by omega) (by omega)]; exact congrArg (Value.int .u64) (gat64 N X (8 - P % 8) _ _ (shift_lt N _ _ 64 hNl.out (by omega))), by rw [HPe.out (8 - P % 8) (by omega)]; exact (HR.out.drewN nq).moved (by omega) (by omega), (HS.out.drewN nq).setCell (fun _ => rfl) _⟩
        case measure => simp [intOf]; omega
    · have hk0 : k = 0 := by omega
      subst hk0
      go_wp2
      go_ret2
      exact ⟨rfl, hat, hfr⟩

end Go.Proofs.YtamonbkhpbdojaaDoor
