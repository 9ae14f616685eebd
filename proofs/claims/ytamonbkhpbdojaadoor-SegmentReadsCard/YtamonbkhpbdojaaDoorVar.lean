/- 'layGroups': a Var's groups go in, or the first that finds no room is refused. -/
import Derived.Test.YtamonbkhpbdojaaDoorLay64
import Derived.Test.YtamonbkhpbdojaaDoorGroups
namespace Go.Proofs.YtamonbkhpbdojaaDoor
set_option maxRecDepth 100000
open Go.RowKit

theorem lay8_fits' (bw : Nat) (v : Value) (most : Nat) (bs : List Bool) (x y : Int) (n wd : Nat) (w : World) (hx : x = n) (hy : y = wd) (h : WAt w bw v most bs) (hn : n < 256) (hw : wd ≤ 8) (hf : bs.length + wd ≤ 8 * most) :
    Calls Tryd.prog 63 #[.pointer (some ⟨bw, 0, none⟩), .int .u8 x, .int .i64 y] w fun e w' => e = .returned (.int .i64 0) ∧ ∃ v', WAt w' bw v' most (bs ++ bitsOf n wd) ∧ WStep bw v v' w w' := by
  subst hx; subst hy; exact lay8_fits bw v most bs n wd w h hn hw hf
theorem lay8_full' (bw : Nat) (v : Value) (most : Nat) (bs : List Bool) (x y : Int) (n wd : Nat) (w : World) (hx : x = n) (hy : y = wd) (h : WAt w bw v most bs) (hw : wd ≤ 8) (hf : 8 * most < bs.length + wd) :
    Calls Tryd.prog 63 #[.pointer (some ⟨bw, 0, none⟩), .int .u8 x, .int .i64 y] w fun e w' => e = .returned (.int .i64 13) ∧ ∃ q, w' = w.drewN q := by
  subst hx; subst hy; exact lay8_full bw v most bs n wd w h (by omega) hf

theorem group_num (m : Nat) : bits .or .u8 ((m : Int) % 256) 128 = ((m % 128 + 128 : Nat) : Int) := by
  have e : ((m : Int) % 256) = ((m % 256 : Nat) : Int) := by simp
  rw [e]
  have h := u8_or_nat (m % 256) 128 (by omega) (by omega)
  have h2 : (m % 256 ||| 128) = m % 128 + 128 := by
    have h3 : ∀ x : Fin 256, (x.val ||| 128) = x.val % 128 + 128 := by decide +kernel
    have := h3 ⟨m % 256, by omega⟩
    simp only at this
    rw [this]; omega
  rw [h2] at h
  exact h

set_option maxRecDepth 100000 in
set_option maxHeartbeats 1000000 in
theorem layGroups_fits (bw : Nat) (v : Value) (most : Nat) (bs : List Bool) (n : Nat) (w : World) (h : WAt w bw v most bs) (hn : n < 18446744073709551616) (hf : bs.length + (varBits n).length ≤ 8 * most) :
    Calls Tryd.prog 51 #[.pointer (some ⟨bw, 0, none⟩), .int .u64 n] w fun e w' => e = .returned (.int .i64 0) ∧ ∃ v', WAt w' bw v' most (bs ++ varBits n) ∧ WStep bw v v' w w' := by
  have HN : Hid (n < 18446744073709551616) := hn
  clear hn
  go_enter Tryd.func51, Tryd.ntmps51
  go_wp2
  go_loopw [1, 5] (fun t _ wr => ∃ (m : Nat) (v1 : Value) (pre : List Bool), t = .int .u64 m ∧ Hid (m < 18446744073709551616) ∧ Hid (varBits n = pre ++ varBits m) ∧ WAt wr bw v1 most (bs ++ pre) ∧ WStep bw v v1 w wr) (fun t _ _ => (intOf t).toNat)
  case atStart => exact ⟨n, v, [], rfl, HN, rfl, by rw [List.append_nil]; exact h, WStep.refl _ _ _⟩
  case round =>
    obtain ⟨m, v1, pre, rfl, HM, HE, hat, hstep⟩ := hrel
    have HS : Hid (WStep bw v v1 w wr) := hstep
    have HA : Hid (WAt wr bw v1 most (bs ++ pre)) := hat
    have HL : Hid ((bs ++ pre).length + (varBits m).length ≤ 8 * most) := by
      show _ ≤ _
      rw [HE.out, List.length_append] at hf; rw [List.length_append]; omega
    clear hstep hat h hf
    by_cases hlt : 128 ≤ m
    · have hl2 : Hid ((varBits m).length = 8 + (varBits (m / 128)).length) := by show _ = _; rw [varBits_more m hlt, List.length_append, length_bitsOf]
      go_wp2_with fail
      refine (lay8_fits' bw v1 most (bs ++ pre) _ _ (m % 128 + 128) 8 _ (group_num m) rfl HA.out (by omega) (by omega) (by have := HL.out; have := hl2.out; omega)).mono ?_
      rintro e w1 ⟨rfl, v2, hat2, hst2⟩
      have HA2 : Hid (WAt w1 bw v2 most (bs ++ (pre ++ bitsOf (m % 128 + 128) 8))) := by rw [← List.append_assoc]; exact hat2
      have HS2 : Hid (WStep bw v v2 w w1) := HS.out.trans hst2
      clear hat2 hst2
      go_wp2_with fail
      go_roundw
      case rel => exact ⟨m / 128, v2, pre ++ bitsOf (m % 128 + 128) 8, congrArg (Value.int .u64) (by omega), Nat.lt_of_le_of_lt (Nat.div_le_self _ _) HM.out, by show _ = _; rw [HE.out, varBits_more m hlt, List.append_assoc], HA2.out, HS2.out⟩
      case measure => simp [intOf]; omega
    · have hl2 : Hid ((varBits m).length = 8) := by show _ = _; rw [varBits_small m (by omega), length_bitsOf]
      go_wp2_with fail
      refine (lay8_fits' bw v1 most (bs ++ pre) _ _ m 8 _ (by omega) rfl HA.out (by omega) (by omega) (by have := HL.out; have := hl2.out; omega)).mono ?_
      rintro e w1 ⟨rfl, v2, hat2, hst2⟩
      go_wp2_with fail
      go_ret
      refine ⟨rfl, v2, ?_, HS.out.trans hst2⟩
      rw [HE.out, varBits_small m (by omega), ← List.append_assoc]
      exact hat2

set_option maxRecDepth 100000 in
set_option maxHeartbeats 1000000 in
theorem layGroups_full (bw : Nat) (v : Value) (most : Nat) (bs : List Bool) (n : Nat) (w : World) (h : WAt w bw v most bs) (hn : n < 18446744073709551616) (hf : 8 * most < bs.length + (varBits n).length) :
    Calls Tryd.prog 51 #[.pointer (some ⟨bw, 0, none⟩), .int .u64 n] w fun e w' => e = .returned (.int .i64 13) ∧ ∃ v' ext, WAt w' bw v' most (bs ++ ext) ∧ WStep bw v v' w w' := by
  have HN : Hid (n < 18446744073709551616) := hn
  clear hn
  go_enter Tryd.func51, Tryd.ntmps51
  go_wp2
  go_loopw [1, 5] (fun t _ wr => ∃ (m : Nat) (v1 : Value) (pre : List Bool), t = .int .u64 m ∧ Hid (m < 18446744073709551616) ∧ Hid (varBits n = pre ++ varBits m) ∧ WAt wr bw v1 most (bs ++ pre) ∧ WStep bw v v1 w wr) (fun t _ _ => (intOf t).toNat)
  case atStart => exact ⟨n, v, [], rfl, HN, rfl, by rw [List.append_nil]; exact h, WStep.refl _ _ _⟩
  case round =>
    obtain ⟨m, v1, pre, rfl, HM, HE, hat, hstep⟩ := hrel
    have HS : Hid (WStep bw v v1 w wr) := hstep
    have HA : Hid (WAt wr bw v1 most (bs ++ pre)) := hat
    have HL : Hid (8 * most < (bs ++ pre).length + (varBits m).length) := by
      show _ < _
      rw [HE.out, List.length_append] at hf; rw [List.length_append]; omega
    clear hstep hat h hf
    by_cases hlt : 128 ≤ m
    · by_cases hr : (bs ++ pre).length + 8 ≤ 8 * most
      · have HR : Hid ((bs ++ pre).length + 8 ≤ 8 * most) := hr
        clear hr
        go_wp2_with fail
        refine (lay8_fits' bw v1 most (bs ++ pre) _ _ (m % 128 + 128) 8 _ (group_num m) rfl HA.out (by omega) (by omega) HR.out).mono ?_
        rintro e w1 ⟨rfl, v2, hat2, hst2⟩
        have HA2 : Hid (WAt w1 bw v2 most (bs ++ (pre ++ bitsOf (m % 128 + 128) 8))) := by rw [← List.append_assoc]; exact hat2
        have HS2 : Hid (WStep bw v v2 w w1) := HS.out.trans hst2
        clear hat2 hst2
        go_wp2_with fail
        go_roundw
        case rel => exact ⟨m / 128, v2, pre ++ bitsOf (m % 128 + 128) 8, congrArg (Value.int .u64) (by omega), Nat.lt_of_le_of_lt (Nat.div_le_self _ _) HM.out, by show _ = _; rw [HE.out, varBits_more m hlt, List.append_assoc], HA2.out, HS2.out⟩
        case measure => simp [intOf]; omega
      · have HR : Hid (8 * most < (bs ++ pre).length + 8) := by show _ < _; omega
        clear hr
        go_wp2_with fail
        refine (lay8_full' bw v1 most (bs ++ pre) _ _ (m % 128 + 128) 8 _ (group_num m) rfl HA.out (by omega) HR.out).mono ?_
        rintro e w1 ⟨rfl, q, rfl⟩
        go_wp2_with fail
        go_ret
        exact ⟨rfl, v1, pre, HA.out.drewN q, HS.out.drewN q⟩
    · have hl2 : Hid ((varBits m).length = 8) := by show _ = _; rw [varBits_small m (by omega), length_bitsOf]
      go_wp2_with fail
      refine (lay8_full' bw v1 most (bs ++ pre) _ _ m 8 _ (by omega) rfl HA.out (by omega) (by have := HL.out; have := hl2.out; omega)).mono ?_
      rintro e w1 ⟨rfl, q, rfl⟩
      go_wp2_with fail
      go_ret
      exact ⟨rfl, v1, pre, HA.out.drewN q, HS.out.drewN q⟩

end Go.Proofs.YtamonbkhpbdojaaDoor
