/- 'EqBitmap' of any two bitmaps. -/
import Derived.Test.YtpfajkkjnobdlaaDoorEq
namespace Go.Proofs.YtpfajkkjnobdlaaDoor
open Go.RowKit

theorem eqw_any (v u : Value) (la lb : List Nat) (w : World) (ha : Seen w v la) (hb : Seen w u lb) :
    Calls Tryd.prog 34 #[v, u] w fun e w' => e = .returned (.bool (decide (la = lb))) ∧ Fr (fun _ => False) w w' := by
  by_cases hl : la.length = lb.length
  · refine (eqw_same v u la lb w ha hb hl _ rfl).mono ?_
    rintro e w' ⟨rfl, q, rfl⟩
    exact ⟨rfl, (Fr.refl _ _).drewN q⟩
  · refine (eqw_len v u la lb w ha hb hl).mono ?_
    rintro e w' ⟨rfl, rfl⟩
    rw [decide_eq_false (fun h => hl (by rw [h]))]
    exact ⟨rfl, Fr.refl _ _⟩

set_option maxRecDepth 100000 in
set_option maxHeartbeats 1000000 in
theorem eqBitmap_any (W H W' H' : Nat) (v u : Value) (la lb : List Nat) (w : World) (ha : Seen w v la) (hb : Seen w u lb) :
    Calls Tryd.prog 17 #[.agg #[.int .i64 W, .int .i64 H, v], .agg #[.int .i64 W', .int .i64 H', u]] w fun e w' => e = .returned (.bool (decide (W = W' ∧ H = H' ∧ la = lb))) ∧ Fr (fun _ => False) w w' := by
  have HQ : Hid (∀ w', Fr (fun _ => False) w w' → Calls Tryd.prog 34 #[v, u] w' fun e w'' => e = .returned (.bool (decide (la = lb))) ∧ Fr (fun _ => False) w' w'') := fun w' hf => eqw_any v u la lb w' (ha.kept hf) (hb.kept hf)
  obtain ⟨ao, ca, rfl, hla, _⟩ := ha
  obtain ⟨bo, cb, rfl, hlb, _⟩ := hb
  by_cases h1 : W = W'
  · by_cases h2 : H = H'
    · subst h1; subst h2
      have e1 : ((W : Int) == (W : Int)) = true := by simp
      have e2 : ((H : Int) == (H : Int)) = true := by simp
      have HD : Hid (decide (W = W ∧ H = H ∧ la = lb) = decide (la = lb)) := decide_eq_decide.2 ⟨fun h => h.2.2, fun h => ⟨rfl, rfl, h⟩⟩
      rw [HD.out]
      generalize decide (la = lb) = bb at *
      go_enter Tryd.func17, Tryd.ntmps17
      go_wp2_with fail
      refine (HQ.out _ (((Fr.refl _ _).alloc _).alloc _)).mono ?_
      rintro e w1 ⟨rfl, hf1⟩
      have HF : Hid (Fr (fun _ => False) w w1) := ((((Fr.refl _ _).alloc _).alloc _)).trans hf1 (fun _ _ h => h)
      clear hf1
      go_wp2_with fail
      go_ret
      exact ⟨rfl, HF.out⟩
    · subst h1
      have e1 : ((W : Int) == (W : Int)) = true := by simp
      have e2 : ((H : Int) == (H' : Int)) = false := by rw [beq_eq_false_iff_ne]; omega
      have e3 : decide ((H : Int) = (H' : Int)) = false := decide_eq_false (by omega)
      have HD : Hid (decide (W = W ∧ H = H' ∧ la = lb) = false) := decide_eq_false (fun h => h2 h.2.1)
      rw [HD.out]
      have HF : Hid (∀ o o', Fr (fun _ => False) w ((w.alloc o).alloc o')) := fun o o' => ((Fr.refl _ _).alloc _).alloc _
      go_enter Tryd.func17, Tryd.ntmps17
      go_wp2_with fail
      go_ret
      exact ⟨rfl, by first | exact HF.out _ _ | exact (HF.out _ _).drew | exact (HF.out _ _).drewN _⟩
  · have e1 : ((W : Int) == (W' : Int)) = false := by rw [beq_eq_false_iff_ne]; omega
    have e3 : decide ((W : Int) = (W' : Int)) = false := decide_eq_false (by omega)
    have HD : Hid (decide (W = W' ∧ H = H' ∧ la = lb) = false) := decide_eq_false (fun h => h1 h.1)
    rw [HD.out]
    have HF : Hid (∀ o o', Fr (fun _ => False) w ((w.alloc o).alloc o')) := fun o o' => ((Fr.refl _ _).alloc _).alloc _
    go_enter Tryd.func17, Tryd.ntmps17
    go_wp2_with fail
    go_ret
    exact ⟨rfl, by first | exact HF.out _ _ | exact (HF.out _ _).drew | exact (HF.out _ _).drewN _⟩

end Go.Proofs.YtpfajkkjnobdlaaDoor
