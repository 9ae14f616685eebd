/- The reference's 'Number'. -/
import Derived.Laws.IdiomStrings
import Derived.Test.YtpfajkkjnobdlaaDoorWa
namespace Go.Proofs.YtpfajkkjnobdlaaDoor
set_option maxRecDepth 100000
open Go.RowKit

theorem one_string (w : World) (x : Nat) (hx : x < 256) : (convert 27 9 (.slice (some ⟨w.heap.size, 0, none⟩) 1 1)).run Tryd.prog (w.alloc (.cells #[.int .u8 (x : Int)] 5)) = .ok (.string (str [UInt8.ofNat x])) (w.alloc (.cells #[.int .u8 (x : Int)] 5)) := by
  have h := run_convert_bytes_back (P := Tryd.prog) (w.alloc (.cells #[.int .u8 (x : Int)] 5)) 27 9 5 ⟨w.heap.size, 0, none⟩ 1 [UInt8.ofNat x] Tryd.underlying27 Tryd.underlying5 Tryd.underlying9 (fun j hj => by
    have hj0 : j = 0 := by simpa using hj
    subst hj0
    have := cell_one_new w (.int .u8 (x : Int)) 5 0 (.int .u8 (x : Int)) rfl
    rw [this]
    simp [UInt8.toNat_ofNat']
    omega)
  exact h

set_option maxHeartbeats 1000000 in
theorem refNumber_any (n : Nat) (hn : n ≤ 1048576) : ∀ w, Calls Tryd.prog 21 #[.int .i64 (n : Int)] w fun e w' => e = .returned (.string (str (Lib.decDigits n))) ∧ Fr (fun _ => False) w w' := by
  induction n using Nat.strongRecOn with
  | _ n ih =>
    intro w
    have HIH : Hid (n ≥ 10 → ∀ w, Calls Tryd.prog 21 #[.int .i64 ((n / 10 : Nat) : Int)] w fun e w' => e = .returned (.string (str (Lib.decDigits (n / 10)))) ∧ Fr (fun _ => False) w w') := fun h w => ih (n / 10) (by omega) (by omega) w
    clear ih
    have hmin : ((n : Int) == -9223372036854775808) = false := by simp
    obtain ⟨d, hd⟩ : ∃ d, d = n % 10 := ⟨_, rfl⟩
    have e1 : (n : Int).tmod 10 = (d : Int) := (Int.tmod_eq_emod_of_nonneg (by omega)).trans (by omega)
    have e1b : (n : Int) % 10 = (d : Int) := by omega
    have hd9 : d ≤ 9 := by omega
    obtain ⟨c, hc⟩ : ∃ c, c = 48 + d := ⟨_, rfl⟩
    have e2 : 48 + (d : Int) = (c : Int) := by omega
    have hc256 : c < 256 := by omega
    have kcv := fun w : World => one_string w c hc256
    have HD : Hid (d = n % 10 ∧ c = 48 + d) := ⟨hd, hc⟩
    clear hd hc
    by_cases h10 : n < 10
    · have hlt : (n : Int) < 10 := by omega
      have HV : Hid (str [UInt8.ofNat c] = str (Lib.decDigits n)) := by
        show _ = _
        rw [Lib.decDigits, dif_pos h10, HD.out.2, HD.out.1, Nat.mod_eq_of_lt h10]
      go_enter Tryd.func21, Tryd.ntmps21
      go_wp2_with fail
      go_ret
      rw [← HV.out]
      exact ⟨rfl, (Fr.refl _ _).alloc _⟩
    · have hlt : ¬ (n : Int) < 10 := by omega
      obtain ⟨t, ht⟩ : ∃ t, t = n / 10 := ⟨_, rfl⟩
      have e3 : (n : Int).tdiv 10 = (t : Int) := (Int.tdiv_eq_ediv_of_nonneg (by omega)).trans (by omega)
      have e3b : (n : Int) / 10 = (t : Int) := by omega
      have HT : Hid (t = n / 10) := ht
      have HCL : Hid (∀ w, Calls Tryd.prog 21 #[.int .i64 (t : Int)] w fun e w' => e = .returned (.string (str (Lib.decDigits t))) ∧ Fr (fun _ => False) w w') := by
        rw [ht]; exact HIH.out (by omega)
      have kadd : ∀ w, (Op.stringOp .add (str (Lib.decDigits t)) (str [UInt8.ofNat c])).run Tryd.prog w = .ok (.string (str (Lib.decDigits n))) w := fun w => by
        have h := str_add w (Lib.decDigits t) [UInt8.ofNat c] (by have := decDigits_len t (by omega); omega) (by show 1 ≤ 8388608; omega)
        rw [h]
        have : Lib.decDigits n = Lib.decDigits t ++ [UInt8.ofNat c] := by
          rw [Lib.decDigits, dif_neg h10, ht, HD.out.2, HD.out.1]
        rw [this]
      have ht2 : t ≤ 104858 := by omega
      clear ht
      go_enter Tryd.func21, Tryd.ntmps21
      go_wp2_with fail
      refine Calls.mono (HCL.out _) ?_
      rintro e w2 ⟨rfl, hf2⟩
      have HF2 : Hid (Fr (fun _ => False) w w2) := ((Fr.refl (fun _ => False) w).alloc _).trans hf2 (fun _ _ h => h)
      clear hf2
      go_wp2_with fail
      go_ret
      exact ⟨rfl, HF2.out⟩
end Go.Proofs.YtpfajkkjnobdlaaDoor
