/- The law 'MeasureOrder'. -/
import Derived.Test.YtnfmcdhllplgmaaSh
import Derived.Test.YtnfmcdhllplgmaaOp
import Derived.Deep.LoopGhost
import Derived.Deep.Cut
import Derived.Deep.CutRange
namespace Go.Proofs.Ytnfmcdhllplgmaa
open Go.RowKit Ieee

/-- A float's place among all floats. -/
def rk (x : Nat) : Int := if isN x then 36893488147419103232 else 2 * sk x + sideI x
def cI (p q : Int) : Int := if p < q then -1 else if q < p then 1 else 0
theorem sk_bound (x : Nat) : -9223372036854775808 < sk x ∧ sk x < 9223372036854775808 := by
  have := rg_lt x
  unfold sk; split <;> omega
theorem sideI_two (x : Nat) : sideI x = 0 ∨ sideI x = -1 := by unfold sideI; split <;> simp
theorem ordI_rk (a b : Nat) : ordI a b = cI (rk a) (rk b) := by
  have h1 := sk_bound a
  have h2 := sk_bound b
  have h3 := sideI_two a
  have h4 := sideI_two b
  unfold ordI rk cI
  cases isN a <;> cases isN b <;> simp only [if_true, if_false, Bool.false_eq_true] <;> (repeat' split) <;> omega
theorem same_rk (a b : Nat) : sameB a b = decide (rk a = rk b) := by
  have h1 := sk_bound a
  have h2 := sk_bound b
  unfold sameB eqB minusB rk sideI
  cases na : isN a <;> cases nb : isN b <;> simp only [Bool.or_true, Bool.or_false, if_true, if_false, Bool.false_eq_true, Bool.and_true, Bool.true_and, Bool.not_false, Bool.and_self]
  · unfold sk at *
    cases sa : sg a <;> cases sb : sg b <;> rw [sa] at h1 <;> rw [sb] at h2 <;> simp only [if_true, if_false, Bool.false_eq_true, Bool.and_true, Bool.and_false] at *
    · rw [Bool.eq_iff_iff]; simp; omega
    · by_cases e : rg b = 0
      · rw [Bool.eq_iff_iff]; simp [e]; omega
      · rw [Bool.eq_iff_iff]; simp [e]; omega
    · by_cases e : rg a = 0
      · rw [Bool.eq_iff_iff]; simp [e]; omega
      · rw [Bool.eq_iff_iff]; simp [e]; omega
    · by_cases e : rg a = rg b
      · rw [e]; simp
      · rw [Bool.eq_iff_iff]; simp; omega
  · symm; refine decide_eq_false ?_; split <;> omega
  · symm; refine decide_eq_false ?_; split <;> omega
  · simp

set_option maxRecDepth 100000 in
set_option maxHeartbeats 8000000 in
theorem orderLaw_any (ao : Option Addr) (n cap : Nat) (F : Nat → Nat) (w : World) (hn : n ≤ 9223372036854775807) (hv : WordsAt w ao n F) (hF : ∀ j, F j < 18446744073709551616) :
    Calls Try.prog 7 #[.agg #[.slice ao n cap]] w fun e w' => e = .returned (.bool true) ∧ Fr (fun _ => False) w w' := by
  have HC : Hid (∀ w', Fr (fun _ => False) w w' → WordsAt w' ao n F) := fun w' f => hv.kept f
  have HF : Hid (∀ j, F j < 18446744073709551616) := hF
  clear hv hF
  have HA : Hid (Fr (fun _ => False) w (w.alloc (.cells #[.slice ao n cap] 37))) := (Fr.refl _ _).alloc _
  have HBX : Hid (∀ w', Fr (fun _ => False) (w.alloc (.cells #[.slice ao n cap] 37)) w' → w'.cell? ⟨w.heap.size, 0, none⟩ = some (.slice ao n cap)) := fun w' hf => by
    have := (hf.block w.heap.size (by simp) (fun hh => hh)).trans (heap_alloc_new w _)
    simp [World.cell?, this]
  have i1 : ∀ ty w, (binOp .quo ty (.float .f64 4607182418800017408) (.float .f64 0)).run Try.prog w = .ok (.float .f64 9218868437227405312) w := fun ty w => run_float_arith w .quo ty .f64 _ _ _ (by decide)
  go_enter Try.func7, Try.ntmps7
  go_wp2_with fail
  refine (zero_any _).mono ?_
  rintro e w1 ⟨rfl, rfl⟩
  go_wp2_with fail
  generalize w.alloc (.cells #[.slice ao n cap] 37) = w0 at *
  clear i1
  have i2 : ∀ ty w, (binOp .sub ty (.float .f64 9218868437227405312) (.float .f64 9218868437227405312)).run Try.prog w = .ok (.float .f64 (nanOf w 9218868437227405312 9218868437227405312)) w.drew := fun ty w => run_float_nan w .sub (by simp) ty _ _ (by decide)
  go_loopg [4, 5, 6, 7, 8, 9, 10] 61 (fun q i _ _ _ _ _ _ wr => ∃ j : Nat, j + q = 61 ∧ i = .int .i64 (j : Int) ∧ Fr (fun _ => False) w0 wr)
  case atStart => exact ⟨0, by omega, rfl, Fr.refl _ _⟩
  case round =>
    obtain ⟨j, hjq, rfl, hfr⟩ := hrel
    have HFr : Hid (Fr (fun _ => False) w0 wr) := hfr
    have c0 := HBX.out _ hfr
    clear hfr
    by_cases h1 : j + 2 < n
    · have d1 : decide ((j : Int) + 2 < n) = true := decide_eq_true (by omega)
      have d1' : decide (j + 2 < n) = true := decide_eq_true (by omega)
      by_cases h2 : j < 60
      · have d2 : decide ((j : Int) < 60) = true := decide_eq_true (by omega)
        obtain ⟨b, off, rfl, -⟩ := HC.out wr (HA.out.trans HFr.out (fun _ _ h => h)) (by omega)
        have HK : Hid (∀ w', Fr (fun _ => False) w0 w' → w'.cell? ⟨w.heap.size, 0, none⟩ = some (.slice (some ⟨b, off, none⟩) n cap) ∧ w'.cell? ⟨b, off + j, none⟩ = some (.int .u64 (F j : Nat)) ∧ w'.cell? ⟨b, off + (j + 1), none⟩ = some (.int .u64 (F (j + 1) : Nat)) ∧ w'.cell? ⟨b, off + (j + 2), none⟩ = some (.int .u64 (F (j + 2) : Nat))) := fun w' f => by
          obtain ⟨b', off', e', hc'⟩ := HC.out w' (HA.out.trans f (fun _ _ h => h)) (by omega)
          simp only [Option.some.injEq, Addr.mk.injEq, and_true] at e'
          obtain ⟨rfl, rfl⟩ := e'
          exact ⟨HBX.out _ f, hc' j (by omega), hc' (j + 1) (by omega), hc' (j + 2) (by omega)⟩
        have HA1 : Hid (F j < 18446744073709551616) := HF.out _
        have HB1 : Hid (F (j + 1) < 18446744073709551616) := HF.out _
        have HT1 : Hid (F (j + 2) < 18446744073709551616) := HF.out _
        obtain ⟨A, eA0⟩ : ∃ A, F j = A := ⟨_, rfl⟩
        obtain ⟨B, eB0⟩ : ∃ B, F (j + 1) = B := ⟨_, rfl⟩
        obtain ⟨C, eT0⟩ : ∃ T, F (j + 2) = T := ⟨_, rfl⟩
        rw [eA0] at HA1
        rw [eB0] at HB1
        rw [eT0] at HT1
        rw [eA0, eB0, eT0] at HK
        clear eA0 eB0 eT0
        obtain ⟨_, c1, c2, c3⟩ := HK.out _ HFr.out
        have eA : ((A : Int)).toNat = A := Int.toNat_natCast A
        have eB : ((B : Int)).toNat = B := Int.toNat_natCast B
        have eT : ((C : Int)).toNat = C := Int.toNat_natCast C
        go_wp2_with fail
        refine (float_any _ _).mono ?_
        rintro e w1 ⟨rfl, rfl⟩
        rw [eA]
        go_wp2_with fail
        refine (float_any _ _).mono ?_
        rintro e w1 ⟨rfl, rfl⟩
        rw [eB]
        go_wp2_with fail
        refine (float_any _ _).mono ?_
        rintro e w1 ⟨rfl, rfl⟩
        rw [eT]
        clear c0 c1 c2 c3 eA eB eT
        obtain ⟨ab, eab⟩ : ∃ x, ordI A B = x := ⟨_, rfl⟩
        obtain ⟨bc, ebc⟩ : ∃ x, ordI B C = x := ⟨_, rfl⟩
        obtain ⟨ac, eac⟩ : ∃ x, ordI A C = x := ⟨_, rfl⟩
        have eba : ordI B A = -ab := by rw [← eab, ordI_rk, ordI_rk]; unfold cI; (repeat' split) <;> omega
        have hR : Hid (cI (rk A) (rk B) = ab ∧ cI (rk B) (rk C) = bc ∧ cI (rk A) (rk C) = ac) := ⟨by rw [← eab, ordI_rk], by rw [← ebc, ordI_rk], by rw [← eac, ordI_rk]⟩
        go_wp2_with fail
        refine (order_any A B HA1.out HB1.out _).mono ?_
        rintro e w1 ⟨rfl, rfl⟩
        rw [eab]
        go_wp2_with fail
        refine (order_any B C HB1.out HT1.out _).mono ?_
        rintro e w1 ⟨rfl, rfl⟩
        rw [ebc]
        go_wp2_with fail
        refine (order_any A C HA1.out HT1.out _).mono ?_
        rintro e w1 ⟨rfl, rfl⟩
        rw [eac]
        clear eab ebc eac
        have hneg : Op.unary .neg (.float .f64 9218868437227405312) = (pure (.float .f64 18442240474082181120) : Sem Value) := rfl
        have HS : Hid (sameB A B = decide (ab = 0)) := by
          show _ = _
          rw [same_rk]
          have := hR.out.1
          exact decide_eq_decide.2 (by rw [← this]; unfold cI; (repeat' split) <;> omega)
        have HL : Hid (ltB A B = true → ab = -1) := by
          intro h
          unfold ltB at h
          simp only [Bool.and_eq_true, Bool.not_eq_true', decide_eq_true_iff] at h
          have h3 := hR.out.1
          rw [← ordI_rk] at h3
          rw [← h3]
          unfold ordI
          rw [h.1.1, h.1.2, if_neg (by simp), if_neg (by simp), if_pos h.2]
        have H1 : Hid (ordI 18442240474082181120 A ≤ 0) := by
          show _ ≤ _
          have hs : sk 18442240474082181120 = -9218868437227405312 := by decide
          have hi : sideI 18442240474082181120 = -1 := by decide
          have hnn : isN 18442240474082181120 = false := by decide
          unfold ordI
          rw [hs, hi, hnn, if_neg (by simp)]
          cases nA : isN A
          · have := isN_false nA
            have hb : -9218868437227405312 ≤ sk A := by unfold sk; unfold infR at this; split <;> omega
            have := sideI_two A
            rw [if_neg (by simp)]
            (repeat' split) <;> omega
          · simp
        have H2 : Hid (∀ w, ordI A (nanOf w 9218868437227405312 9218868437227405312) ≤ 0) := fun w => by
          unfold ordI
          rw [isN_of (nanOf_nan _ _ _).1]
          cases isN A <;> simp
        have H3 : Hid (isN A = false → ordI A 9218868437227405312 ≤ 0) := by
          intro nA
          have hs : sk 9218868437227405312 = 9218868437227405312 := by decide
          have hi : sideI 9218868437227405312 = 0 := by decide
          have hnn : isN 9218868437227405312 = false := by decide
          unfold ordI
          rw [hs, hi, hnn, nA, if_neg (by simp), if_neg (by simp)]
          have := isN_false nA
          have hb : sk A ≤ 9218868437227405312 := by unfold sk; unfold infR at this; split <;> omega
          have := sideI_two A
          (repeat' split) <;> omega
        have hcases : (ab = -1 ∨ ab = 0 ∨ ab = 1) ∧ (bc = -1 ∨ bc = 0 ∨ bc = 1) ∧ (ac = -1 ∨ ac = 0 ∨ ac = 1) ∧ (ab ≤ 0 → bc ≤ 0 → ac ≤ 0) ∧ (ab < 0 → bc ≤ 0 → ac < 0) ∧ (ab = 0 → bc = 0 → ac = 0) := by
          obtain ⟨h3, h4, h5⟩ := hR.out
          rw [← h3, ← h4, ← h5]
          unfold cI
          refine ⟨?_, ?_, ?_, ?_, ?_, ?_⟩ <;> (repeat' split) <;> omega
        have HFw : Hid (Fr (fun _ => False) w0 w1) := HFr.out
        clear hR
        go_upto_region 11 with (fail)
        go_cut [103] from 54 to 102 (fun u wc => u = .bool false ∧ wc = w1)
        case first =>
          obtain ⟨p1, p2, p3, p4, p5, p6⟩ := hcases
          go_wp2_with fail
          refine (order_any B A HB1.out HA1.out _).mono ?_
          rintro e w1 ⟨rfl, rfl⟩
          rw [eba]
          rcases p1 with rfl | rfl | rfl <;> rcases p2 with rfl | rfl | rfl <;> rcases p3 with rfl | rfl | rfl <;> first | (exfalso; clear HS HL; omega) | skip
          all_goals clear p4 p5 p6
          all_goals go_wp2_with fail
          all_goals (go_meet; exact ⟨rfl, rfl⟩)
        case rest =>
          obtain ⟨rfl, rfl⟩ := hcut
          obtain ⟨p1, -, -, -, -, -⟩ := hcases
          clear eba
          obtain ⟨L, eL⟩ : ∃ x, (FloatKind.f64.format.order A B == some Ordering.lt) = x := ⟨_, rfl⟩
          obtain ⟨E, eE⟩ : ∃ x, (FloatKind.f64.format.order A A == some Ordering.eq) = x := ⟨_, rfl⟩
          have HE : Hid (E = true → isN A = false) := by
            intro h; rw [← eE, o_eq, eqB_self] at h; simpa using h
          have HL' : Hid (L = true → ab = -1) := by
            intro h; rw [← eL, o_lt] at h; exact HL.out h
          clear HL
          obtain ⟨m1, em1⟩ : ∃ x, ordI 18442240474082181120 A = x := ⟨_, rfl⟩
          have hm1 : decide (0 < m1) = false := by rw [← em1]; exact decide_eq_false (by have := H1.out; omega)
          obtain ⟨m3, em3⟩ : ∃ x, ordI A 9218868437227405312 = x := ⟨_, rfl⟩
          have HM3 : Hid (E = true → decide (0 < m3) = false) := by
            intro h; rw [← em3]; exact decide_eq_false (by have := H3.out (HE.out h); omega)
          clear H1 H3
          go_upto_region 13 with (fail)
          go_cut [144] from 104 to 143 (fun u wc => u = .bool false ∧ Fr (fun _ => False) w0 wc)
          case first =>
            rcases p1 with rfl | rfl | rfl
            all_goals (cases L <;> first | (exfalso; have := HL'.out rfl; omega) | skip)
            all_goals go_wp2_with fail
            all_goals refine (same_any A B _).mono ?_
            all_goals rintro e w2 ⟨rfl, rfl⟩
            all_goals rw [HS.out]
            all_goals go_wp2_with fail
            all_goals refine (order_any 18442240474082181120 A (by decide) HA1.out _).mono ?_
            all_goals rintro e w2 ⟨rfl, rfl⟩
            all_goals rw [em1]
            all_goals go_wp2_with fail
            all_goals refine (order_any A _ HA1.out (nanOf_nan _ _ _).2 _).mono ?_
            all_goals rintro e w2 ⟨rfl, rfl⟩
            all_goals have hm2 : ∀ w, decide (0 < ordI A (nanOf w 9218868437227405312 9218868437227405312)) = false := fun w => decide_eq_false (by have := H2.out w; omega)
            all_goals cases E
            all_goals go_wp2_with fail
            all_goals first | (go_meet; exact ⟨rfl, HFw.out.drew⟩) | skip
            all_goals refine (order_any A 9218868437227405312 HA1.out (by decide) _).mono ?_
            all_goals rintro e w2 ⟨rfl, rfl⟩
            all_goals rw [em3]
            all_goals have hm3 : decide (0 < m3) = false := by first | exact HM3.out rfl | exact HM3.out trivial | simpa using HM3.out
            all_goals go_wp2_with fail
            all_goals (go_meet; exact ⟨rfl, HFw.out.drew⟩)
          case rest =>
            obtain ⟨rfl, hfc⟩ := hcut
            have HFC : Hid (Fr (fun _ => False) w0 wc) := hfc
            clear hfc
            go_wp2_with fail
            go_roundg (61 - (j + 1))
            case measure => omega
            case rel => exact ⟨j + 1, by omega, congrArg (Value.int .i64) (by omega), HFC.out⟩
      · have d2 : decide ((j : Int) < 60) = false := decide_eq_false (by omega)
        go_wp2_with fail
        have g0 : Op.unary .neg (.float .f64 0) = (pure (.float .f64 9223372036854775808) : Sem Value) := rfl
        have g1 : ∀ ty w, (binOp .mul ty (.float .f64 9223372036854775808) (.float .f64 4607182418800017408)).run Try.prog w = .ok (.float .f64 9223372036854775808) w := fun ty w => run_float_arith w .mul ty .f64 _ _ _ (by decide +kernel)
        have g2 : Op.unary .neg (.float .f64 9218868437227405312) = (pure (.float .f64 18442240474082181120) : Sem Value) := rfl
        have g3 : ∀ ty w, (binOp .quo ty (.float .f64 4607182418800017408) (.float .f64 18442240474082181120)).run Try.prog w = .ok (.float .f64 9223372036854775808) w := fun ty w => run_float_arith w .quo ty .f64 _ _ _ (by decide +kernel)
        have g4 : ordI 9223372036854775808 0 = -1 := by decide
        refine (zero_any _).mono ?_
        rintro e w1 ⟨rfl, rfl⟩
        go_wp2_with fail
        refine (zero_any _).mono ?_
        rintro e w1 ⟨rfl, rfl⟩
        go_wp2_with fail
        refine (order_any 9223372036854775808 0 (by decide) (by decide) _).mono ?_
        rintro e w1 ⟨rfl, rfl⟩
        rw [g4]
        go_wp2_with fail
        refine (zero_any _).mono ?_
        rintro e w1 ⟨rfl, rfl⟩
        go_wp2_with fail
        refine (order_any 9223372036854775808 0 (by decide) (by decide) _).mono ?_
        rintro e w1 ⟨rfl, rfl⟩
        rw [g4]
        go_wp2_with fail
        refine (wakes_any _).mono ?_
        rintro e w1 ⟨rfl, hf1⟩
        have HF1 : Hid (Fr (fun _ => False) w w1) := (HA.out.trans HFr.out (fun _ _ h => h)).trans hf1 (fun _ _ h => h)
        clear hf1
        go_wp2_with fail
        all_goals (go_ret; exact ⟨rfl, HF1.out⟩)
    · have d1 : decide ((j : Int) + 2 < n) = false := decide_eq_false (by omega)
      have d1' : decide (j + 2 < n) = false := decide_eq_false (by omega)
      go_wp2_with fail
      have g0 : Op.unary .neg (.float .f64 0) = (pure (.float .f64 9223372036854775808) : Sem Value) := rfl
      have g1 : ∀ ty w, (binOp .mul ty (.float .f64 9223372036854775808) (.float .f64 4607182418800017408)).run Try.prog w = .ok (.float .f64 9223372036854775808) w := fun ty w => run_float_arith w .mul ty .f64 _ _ _ (by decide +kernel)
      have g2 : Op.unary .neg (.float .f64 9218868437227405312) = (pure (.float .f64 18442240474082181120) : Sem Value) := rfl
      have g3 : ∀ ty w, (binOp .quo ty (.float .f64 4607182418800017408) (.float .f64 18442240474082181120)).run Try.prog w = .ok (.float .f64 9223372036854775808) w := fun ty w => run_float_arith w .quo ty .f64 _ _ _ (by decide +kernel)
      have g4 : ordI 9223372036854775808 0 = -1 := by decide
      refine (zero_any _).mono ?_
      rintro e w1 ⟨rfl, rfl⟩
      go_wp2_with fail
      refine (zero_any _).mono ?_
      rintro e w1 ⟨rfl, rfl⟩
      go_wp2_with fail
      refine (order_any 9223372036854775808 0 (by decide) (by decide) _).mono ?_
      rintro e w1 ⟨rfl, rfl⟩
      rw [g4]
      go_wp2_with fail
      refine (zero_any _).mono ?_
      rintro e w1 ⟨rfl, rfl⟩
      go_wp2_with fail
      refine (order_any 9223372036854775808 0 (by decide) (by decide) _).mono ?_
      rintro e w1 ⟨rfl, rfl⟩
      rw [g4]
      go_wp2_with fail
      refine (wakes_any _).mono ?_
      rintro e w1 ⟨rfl, hf1⟩
      have HF1 : Hid (Fr (fun _ => False) w w1) := (HA.out.trans HFr.out (fun _ _ h => h)).trans hf1 (fun _ _ h => h)
      clear hf1
      go_wp2_with fail
      all_goals (go_ret; exact ⟨rfl, HF1.out⟩)
end Go.Proofs.Ytnfmcdhllplgmaa
