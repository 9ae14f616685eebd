/- The law 'MeasureNear'. -/
import Derived.Test.YtnfmcdhllplgmaaSh
import Derived.Test.YtnfmcdhllplgmaaFa
import Derived.Test.YtnfmcdhllplgmaaOp
import Derived.Deep.LoopGhost
namespace Go.Proofs.Ytnfmcdhllplgmaa
open Go.RowKit Ieee

theorem ordI_self (a : Nat) : ordI a a = 0 := by
  unfold ordI
  cases isN a
  · rw [if_neg (by simp), if_neg (by simp), if_neg (by omega), if_neg (by omega)]; omega
  · rfl

set_option maxRecDepth 100000 in
set_option maxHeartbeats 4000000 in
theorem near_any (ao : Option Addr) (n cap : Nat) (F : Nat → Nat) (w : World) (hn : n ≤ 9223372036854775807) (hv : WordsAt w ao n F) (hF : ∀ j, F j < 18446744073709551616) :
    Calls Try.prog 6 #[.agg #[.slice ao n cap]] w fun e w' => e = .returned (.bool true) ∧ Fr (fun _ => False) w w' := by
  have HC : Hid (∀ w', Fr (fun _ => False) w w' → WordsAt w' ao n F) := fun w' f => hv.kept f
  have HF : Hid (∀ j, F j < 18446744073709551616) := hF
  clear hv hF
  have HA : Hid (Fr (fun _ => False) w (w.alloc (.cells #[.slice ao n cap] 37))) := (Fr.refl _ _).alloc _
  have HBX : Hid (∀ w', Fr (fun _ => False) (w.alloc (.cells #[.slice ao n cap] 37)) w' → w'.cell? ⟨w.heap.size, 0, none⟩ = some (.slice ao n cap)) := fun w' hf => by
    have := (hf.block w.heap.size (by simp) (fun hh => hh)).trans (heap_alloc_new w _)
    simp [World.cell?, this]
  go_enter Try.func6, Try.ntmps6
  go_wp2_with fail
  generalize w.alloc (.cells #[.slice ao n cap] 37) = w0 at *
  go_loopg [3, 4, 5, 6, 7, 8] 61 (fun q i _ _ _ _ _ wr => ∃ j : Nat, j + q = 61 ∧ i = .int .i64 (j : Int) ∧ Fr (fun _ => False) w0 wr)
  case atStart => exact ⟨0, by omega, rfl, Fr.refl _ _⟩
  case round =>
    obtain ⟨j, hjq, rfl, hfr⟩ := hrel
    have HFr : Hid (Fr (fun _ => False) w0 wr) := hfr
    have c0 := HBX.out _ hfr
    clear hfr
    by_cases h1 : j + 2 < n
    · have d1 : decide ((j : Int) + 2 < n) = true := decide_eq_true (by omega)
      have d1' : decide (j + 2 < n) = true := decide_eq_true (by omega)
      by_cases h2 : j < 60
      · have d2 : decide ((j : Int) < 60) = true := decide_eq_true (by omega)
        obtain ⟨b, off, rfl, -⟩ := HC.out wr (HA.out.trans HFr.out (fun _ _ h => h)) (by omega)
        have HK : Hid (∀ w', Fr (fun _ => False) w0 w' → w'.cell? ⟨w.heap.size, 0, none⟩ = some (.slice (some ⟨b, off, none⟩) n cap) ∧ w'.cell? ⟨b, off + j, none⟩ = some (.int .u64 (F j : Nat)) ∧ w'.cell? ⟨b, off + (j + 1), none⟩ = some (.int .u64 (F (j + 1) : Nat)) ∧ w'.cell? ⟨b, off + (j + 2), none⟩ = some (.int .u64 (F (j + 2) : Nat))) := fun w' f => by
          obtain ⟨b', off', e', hc'⟩ := HC.out w' (HA.out.trans f (fun _ _ h => h)) (by omega)
          simp only [Option.some.injEq, Addr.mk.injEq, and_true] at e'
          obtain ⟨rfl, rfl⟩ := e'
          exact ⟨HBX.out _ f, hc' j (by omega), hc' (j + 1) (by omega), hc' (j + 2) (by omega)⟩
        have HA1 : Hid (F j < 18446744073709551616) := HF.out _
        have HB1 : Hid (F (j + 1) < 18446744073709551616) := HF.out _
        have HT1 : Hid (F (j + 2) < 18446744073709551616) := HF.out _
        obtain ⟨A, eA0⟩ : ∃ A, F j = A := ⟨_, rfl⟩
        obtain ⟨B, eB0⟩ : ∃ B, F (j + 1) = B := ⟨_, rfl⟩
        obtain ⟨T, eT0⟩ : ∃ T, F (j + 2) = T := ⟨_, rfl⟩
        rw [eA0] at HA1
        rw [eB0] at HB1
        rw [eT0] at HT1
        rw [eA0, eB0, eT0] at HK
        clear eA0 eB0 eT0
        obtain ⟨_, c1, c2, c3⟩ := HK.out _ HFr.out
        have eA : ((A : Int)).toNat = A := Int.toNat_natCast A
        have eB : ((B : Int)).toNat = B := Int.toNat_natCast B
        have eT : ((T : Int)).toNat = T := Int.toNat_natCast T
        go_wp2_with fail
        refine (float_any _ _).mono ?_
        rintro e w1 ⟨rfl, rfl⟩
        rw [eA]
        go_wp2_with fail
        refine (float_any _ _).mono ?_
        rintro e w1 ⟨rfl, rfl⟩
        rw [eB]
        go_wp2_with fail
        refine (float_any _ _).mono ?_
        rintro e w1 ⟨rfl, rfl⟩
        rw [eT]
        clear c0 c1 c2 c3 eA eB eT
        go_wp2_with fail
        refine (tolerance_any T _).mono ?_
        rintro e w1 ⟨rfl, rfl⟩
        have HR : Hid (Fr (fun _ => False) w0 w1) := HFr.out
        have HTV : Hid (tolV T = if tolB T then .tuple #[.float .f64 (if rg T = 0 then 0 else T), .int .i64 0] else .tuple #[.float .f64 0, .int .i64 102]) := rfl
        have hls : leB 0 T = tolB T := rfl
        rw [HTV.out]
        cases ht : tolB T
        · rw [ht] at hls
          clear ht
          go_wp2_with fail
          refine (fits_any T _).mono ?_
          rintro e w1 ⟨rfl, rfl⟩
          rw [hls]
          go_wp2_with fail
          refine (same_any 0 0 _).mono ?_
          rintro e w1 ⟨rfl, rfl⟩
          rw [sameB_self]
          go_wp2_with fail
          refine (within_any A B T HA1.out HB1.out _).mono ?_
          rintro e w2 ⟨rfl, hf2⟩
          have HF2 : Hid (Fr (fun _ => False) w0 w2) := HR.out.trans hf2 (fun _ _ h => h)
          clear hf2
          go_wp2_with fail
          refine (rwithin_any A B T _).mono ?_
          rintro e w3 ⟨rfl, hf3⟩
          have HF3 : Hid (Fr (fun _ => False) w0 w3) := HF2.out.trans hf3 (fun _ _ h => h)
          clear hf3
          have hwi : (wiB A B T != wiB A B T) = false := by simp
          generalize wiB A B T = V at *
          go_wp2_with fail
          refine (order_any A B HA1.out HB1.out _).mono ?_
          rintro e w4 ⟨rfl, rfl⟩
          go_wp2_with fail
          refine (rorder_any A B _).mono ?_
          rintro e w4 ⟨rfl, rfl⟩
          have hoi : (ordI A B != ordI A B) = false := by simp
          generalize ordI A B = O at *
          go_wp2_with fail
          refine (order_any A A HA1.out HA1.out _).mono ?_
          rintro e w4 ⟨rfl, rfl⟩
          rw [ordI_self]
          go_wp2_with fail
          go_roundg (61 - (j + 1))
          case measure => omega
          case rel => exact ⟨j + 1, by omega, congrArg (Value.int .i64) (by omega), HF3.out⟩
        · have HTR : Hid (rg T ≤ infR) := (tol_rg ht).1
          have hop : ∀ ty w, (binOp .add ty (.float .f64 T) (.float .f64 0)).run Try.prog w = .ok (.float .f64 (if rg T = 0 then 0 else T)) w := fun ty w => run_float_arith w .add ty .f64 T 0 _ (add_zero HT1.out HTR.out)
          rw [ht] at hls
          clear ht
          generalize (if rg T = 0 then 0 else T) = U at *
          go_wp2_with fail
          refine (fits_any T _).mono ?_
          rintro e w1 ⟨rfl, rfl⟩
          rw [hls]
          go_wp2_with fail
          refine (zero_any _).mono ?_
          rintro e w1 ⟨rfl, rfl⟩
          go_wp2_with fail
          refine (same_any U U _).mono ?_
          rintro e w1 ⟨rfl, rfl⟩
          rw [sameB_self]
          go_wp2_with fail
          refine (within_any A B T HA1.out HB1.out _).mono ?_
          rintro e w2 ⟨rfl, hf2⟩
          have HF2 : Hid (Fr (fun _ => False) w0 w2) := HR.out.trans hf2 (fun _ _ h => h)
          clear hf2
          go_wp2_with fail
          refine (rwithin_any A B T _).mono ?_
          rintro e w3 ⟨rfl, hf3⟩
          have HF3 : Hid (Fr (fun _ => False) w0 w3) := HF2.out.trans hf3 (fun _ _ h => h)
          clear hf3
          have hwi : (wiB A B T != wiB A B T) = false := by simp
          generalize wiB A B T = V at *
          go_wp2_with fail
          refine (order_any A B HA1.out HB1.out _).mono ?_
          rintro e w4 ⟨rfl, rfl⟩
          go_wp2_with fail
          refine (rorder_any A B _).mono ?_
          rintro e w4 ⟨rfl, rfl⟩
          have hoi : (ordI A B != ordI A B) = false := by simp
          generalize ordI A B = O at *
          go_wp2_with fail
          refine (order_any A A HA1.out HA1.out _).mono ?_
          rintro e w4 ⟨rfl, rfl⟩
          rw [ordI_self]
          go_wp2_with fail
          go_roundg (61 - (j + 1))
          case measure => omega
          case rel => exact ⟨j + 1, by omega, congrArg (Value.int .i64) (by omega), HF3.out⟩
      · have d2 : decide ((j : Int) < 60) = false := decide_eq_false (by omega)
        go_wp2_with fail
        refine (wakes_any _).mono ?_
        rintro e w1 ⟨rfl, hf1⟩
        have HF1 : Hid (Fr (fun _ => False) w w1) := (HA.out.trans HFr.out (fun _ _ h => h)).trans hf1 (fun _ _ h => h)
        clear hf1
        go_wp2_with fail
        all_goals (go_ret; exact ⟨rfl, HF1.out⟩)
    · have d1 : decide ((j : Int) + 2 < n) = false := decide_eq_false (by omega)
      have d1' : decide (j + 2 < n) = false := decide_eq_false (by omega)
      go_wp2_with fail
      refine (wakes_any _).mono ?_
      rintro e w1 ⟨rfl, hf1⟩
      have HF1 : Hid (Fr (fun _ => False) w w1) := (HA.out.trans HFr.out (fun _ _ h => h)).trans hf1 (fun _ _ h => h)
      clear hf1
      go_wp2_with fail
      all_goals (go_ret; exact ⟨rfl, HF1.out⟩)
end Go.Proofs.Ytnfmcdhllplgmaa
