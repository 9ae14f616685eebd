/- The law 'MeasureWithin'. -/
import Derived.Test.YtnfmcdhllplgmabSh
import Derived.Test.YtnfmcdhllplgmabOp
import Derived.Deep.LoopGhost
import Derived.Deep.Cut
import Derived.Deep.CutRange
namespace Go.Proofs.Ytnfmcdhllplgmab
open Go.RowKit Ieee

theorem wiB_comm (a b s : Nat) : wiB a b s = wiB b a s := by
  unfold wiB
  cases na : isN a <;> cases nb : isN b <;> simp only [Bool.not_true, Bool.not_false, Bool.and_true, Bool.and_false, Bool.false_and]
  by_cases e : sk a = sk b
  · rw [decide_eq_true e, decide_eq_true e.symm]; rfl
  · rw [(dist_spec na nb e).2.2, decide_eq_false e, decide_eq_false (show ¬ sk b = sk a from fun h => e h.symm)]
theorem wiB_true {a b s : Nat} (h : wiB a b s = true) : tolB s = true ∧ isN a = false ∧ isN b = false ∧ (sk a = sk b ∨ dist a b ≤ rg s) := by
  unfold wiB at h
  simp only [Bool.and_eq_true, Bool.or_eq_true, Bool.not_eq_true', decide_eq_true_iff] at h
  exact ⟨h.1.1.1, h.1.1.2, h.1.2, h.2⟩
theorem wiB_of {a b s : Nat} (h1 : tolB s = true) (h2 : isN a = false) (h3 : isN b = false) (h4 : sk a = sk b ∨ dist a b ≤ rg s) : wiB a b s = true := by
  unfold wiB
  simp only [Bool.and_eq_true, Bool.or_eq_true, Bool.not_eq_true', decide_eq_true_iff]
  exact ⟨⟨⟨h1, h2⟩, h3⟩, h4⟩
theorem wiB_mono {a b s t : Nat} (h : wiB a b s = true) (hst : leB s t = true) : wiB a b t = true := by
  obtain ⟨h1, h2, h3, h4⟩ := wiB_true h
  unfold leB at hst
  simp only [Bool.and_eq_true, Bool.not_eq_true', decide_eq_true_iff] at hst
  have hs := tol_rg h1
  have ht : tolB t = true := by rw [tolB_spec, hst.1.2, decide_eq_true (by omega)]; rfl
  have ht2 := tol_rg ht
  exact wiB_of ht h2 h3 (by omega)
theorem wiB_inf (a b : Nat) : wiB a b 9218868437227405312 = (!isN a && !isN b) := by
  cases na : isN a
  · cases nb : isN b
    · refine wiB_of (by decide) na nb ?_
      by_cases e : sk a = sk b
      · exact Or.inl e
      · right
        have := (dist_spec na nb e).1
        rw [show rg 9218868437227405312 = infR from by decide]; exact this
    · unfold wiB; rw [nb]; simp
  · unfold wiB; rw [na]; simp
theorem wiB_none {a b t : Nat} (h : tolB t = false) : wiB a b t = false := by unfold wiB; rw [h]; rfl
theorem wiB_self (a : Nat) : wiB a a 0 = !isN a := by
  unfold wiB; rw [show tolB 0 = true from by decide]; cases isN a <;> simp
theorem sub_le {a b s : Nat} (h : wiB a b s = true) (hne : eqB a b = false) :
    ∃ r, floatBits .sub .f64 a b = some r ∧ leB r s = true := by
  obtain ⟨h1, h2, h3, h4⟩ := wiB_true h
  have e : sk a ≠ sk b := by
    intro e; unfold eqB at hne; rw [h2, h3, decide_eq_true e] at hne; cases hne
  obtain ⟨d1, d2, d3⟩ := dist_spec h2 h3 e
  have hs := tol_rg h1
  refine ⟨_, d2, ?_⟩
  unfold leB
  rw [isN_no (by rw [rg_wo d1]; exact d1), isN_no hs.1, sk_wo d1, hs.2]
  have : dist a b ≤ rg s := by omega
  simp only [Bool.not_false, Bool.true_and, decide_eq_true_iff]
  split <;> omega

set_option maxRecDepth 100000 in
set_option maxHeartbeats 8000000 in
theorem withinLaw_any (ao : Option Addr) (n cap : Nat) (F : Nat → Nat) (w : World) (hn : n ≤ 9223372036854775807) (hv : WordsAt w ao n F) (hF : ∀ j, F j < 18446744073709551616) :
    Calls Try.prog 3 #[.agg #[.slice ao n cap]] w fun e w' => e = .returned (.bool true) ∧ Fr (fun _ => False) w w' := by
  have HC : Hid (∀ w', Fr (fun _ => False) w w' → WordsAt w' ao n F) := fun w' f => hv.kept f
  have HF : Hid (∀ j, F j < 18446744073709551616) := hF
  clear hv hF
  have HA : Hid (Fr (fun _ => False) w (w.alloc (.cells #[.slice ao n cap] 24))) := (Fr.refl _ _).alloc _
  have HBX : Hid (∀ w', Fr (fun _ => False) (w.alloc (.cells #[.slice ao n cap] 24)) w' → w'.cell? ⟨w.heap.size, 0, none⟩ = some (.slice ao n cap)) := fun w' hf => by
    have := (hf.block w.heap.size (by simp) (fun hh => hh)).trans (heap_alloc_new w _)
    simp [World.cell?, this]
  have i1 : ∀ ty w, (binOp .quo ty (.float .f64 4607182418800017408) (.float .f64 0)).run Try.prog w = .ok (.float .f64 9218868437227405312) w := fun ty w => run_float_arith w .quo ty .f64 _ _ _ (by decide)
  go_enter Try.func3, Try.ntmps3
  go_wp2_with fail
  refine (zero_any _).mono ?_
  rintro e w1 ⟨rfl, rfl⟩
  go_wp2_with fail
  generalize w.alloc (.cells #[.slice ao n cap] 24) = w0 at *
  clear i1
  have i2 : ∀ ty w, (binOp .sub ty (.float .f64 9218868437227405312) (.float .f64 9218868437227405312)).run Try.prog w = .ok (.float .f64 (nanOf w 9218868437227405312 9218868437227405312)) w.drew := fun ty w => run_float_nan w .sub (by simp) ty _ _ (by decide)
  go_loopg [4, 5, 6, 7, 8, 9] 61 (fun q i _ _ _ _ _ wr => ∃ j : Nat, j + q = 61 ∧ i = .int .i64 (j : Int) ∧ Fr (fun _ => False) w0 wr)
  case atStart => exact ⟨0, by omega, rfl, Fr.refl _ _⟩
  case round =>
    obtain ⟨j, hjq, rfl, hfr⟩ := hrel
    have HFr : Hid (Fr (fun _ => False) w0 wr) := hfr
    have c0 := HBX.out _ hfr
    clear hfr
    by_cases h1 : j + 3 < n
    · have d1 : decide ((j : Int) + 3 < n) = true := decide_eq_true (by omega)
      have d1' : decide (j + 3 < n) = true := decide_eq_true (by omega)
      by_cases h2 : j < 60
      · have d2 : decide ((j : Int) < 60) = true := decide_eq_true (by omega)
        obtain ⟨b, off, rfl, -⟩ := HC.out wr (HA.out.trans HFr.out (fun _ _ h => h)) (by omega)
        have HK : Hid (∀ w', Fr (fun _ => False) w0 w' → w'.cell? ⟨w.heap.size, 0, none⟩ = some (.slice (some ⟨b, off, none⟩) n cap) ∧ w'.cell? ⟨b, off + j, none⟩ = some (.int .u64 (F j : Nat)) ∧ w'.cell? ⟨b, off + (j + 1), none⟩ = some (.int .u64 (F (j + 1) : Nat)) ∧ w'.cell? ⟨b, off + (j + 2), none⟩ = some (.int .u64 (F (j + 2) : Nat)) ∧ w'.cell? ⟨b, off + (j + 3), none⟩ = some (.int .u64 (F (j + 3) : Nat))) := fun w' f => by
          obtain ⟨b', off', e', hc'⟩ := HC.out w' (HA.out.trans f (fun _ _ h => h)) (by omega)
          simp only [Option.some.injEq, Addr.mk.injEq, and_true] at e'
          obtain ⟨rfl, rfl⟩ := e'
          exact ⟨HBX.out _ f, hc' j (by omega), hc' (j + 1) (by omega), hc' (j + 2) (by omega), hc' (j + 3) (by omega)⟩
        have HA1 : Hid (F j < 18446744073709551616) := HF.out _
        have HB1 : Hid (F (j + 1) < 18446744073709551616) := HF.out _
        obtain ⟨A, eA0⟩ : ∃ A, F j = A := ⟨_, rfl⟩
        obtain ⟨B, eB0⟩ : ∃ B, F (j + 1) = B := ⟨_, rfl⟩
        obtain ⟨S, eS0⟩ : ∃ T, F (j + 2) = T := ⟨_, rfl⟩
        obtain ⟨T, eT0⟩ : ∃ T, F (j + 3) = T := ⟨_, rfl⟩
        rw [eA0] at HA1
        rw [eB0] at HB1
        rw [eA0, eB0, eS0, eT0] at HK
        clear eA0 eB0 eS0 eT0
        obtain ⟨_, c1, c2, c3, c4⟩ := HK.out _ HFr.out
        have eA : ((A : Int)).toNat = A := Int.toNat_natCast A
        have eB : ((B : Int)).toNat = B := Int.toNat_natCast B
        have eS : ((S : Int)).toNat = S := Int.toNat_natCast S
        have eT : ((T : Int)).toNat = T := Int.toNat_natCast T
        go_wp2_with fail
        refine (float_any _ _).mono ?_
        rintro e w1 ⟨rfl, rfl⟩
        rw [eA]
        go_wp2_with fail
        refine (float_any _ _).mono ?_
        rintro e w1 ⟨rfl, rfl⟩
        rw [eB]
        go_wp2_with fail
        refine (float_any _ _).mono ?_
        rintro e w1 ⟨rfl, rfl⟩
        rw [eS]
        go_wp2_with fail
        refine (float_any _ _).mono ?_
        rintro e w1 ⟨rfl, rfl⟩
        rw [eT]
        clear c0 c1 c2 c3 c4 eA eB eS eT
        have HR0 : Hid (Fr (fun _ => False) w0 w1) := HFr.out
        obtain ⟨W, eW⟩ : ∃ x, wiB A B S = x := ⟨_, rfl⟩
        have eW2 : wiB B A S = W := by rw [← eW, wiB_comm]
        go_wp2_with fail
        refine (within_any A B S HA1.out HB1.out _).mono ?_
        rintro e w2 ⟨rfl, hf2⟩
        rw [eW]
        have HF2 : Hid (Fr (fun _ => False) w0 w2) := HR0.out.trans hf2 (fun _ _ h => h)
        clear hf2 HR0
        obtain ⟨G, eG⟩ : ∃ x, (FloatKind.f64.format.order T S == some Ordering.gt || FloatKind.f64.format.order T S == some Ordering.eq) = x := ⟨_, rfl⟩
        have HG : Hid (W = true → G = true → wiB A B T = true) := fun hW hG => by
          rw [← eG, o_ge] at hG; rw [← eW] at hW; exact wiB_mono hW hG
        have HP : Hid (W = true → (FloatKind.f64.format.order S 0 == some Ordering.gt || FloatKind.f64.format.order S 0 == some Ordering.eq) = true) := fun hW => by
          rw [← eW] at hW; rw [o_ge]; exact (wiB_true hW).1
        have HSL : Hid (W = true → eqB A B = false → (∃ r, floatBits .sub .f64 A B = some r ∧ leB r S = true) ∧ (∃ r, floatBits .sub .f64 B A = some r ∧ leB r S = true)) := fun hW he => by
          refine ⟨sub_le (by rw [eW]; exact hW) he, sub_le (by rw [eW2]; exact hW) ?_⟩
          unfold eqB at he ⊢
          rw [Bool.and_comm (!isN B), show decide (sk B = sk A) = decide (sk A = sk B) from decide_eq_decide.2 eq_comm]; exact he
        clear eW
        go_upto_region 10 with (fail)
        go_cut [120] from 55 to 119 (fun u wc => u = .bool false ∧ Fr (fun _ => False) w0 wc)
        case first =>
          obtain ⟨Y, eY⟩ : ∃ x, (!isN A) = x := ⟨_, rfl⟩
          obtain ⟨Z, eZ⟩ : ∃ x, (!isN B) = x := ⟨_, rfl⟩
          have oA : (FloatKind.f64.format.order A A == some Ordering.eq) = Y := by rw [o_eq, eqB_self, eY]
          have oB : (FloatKind.f64.format.order B B == some Ordering.eq) = Z := by rw [o_eq, eqB_self, eZ]
          have Q : Hid (wiB A A 0 = Y ∧ wiB A B 9218868437227405312 = (Y && Z) ∧ (∀ w, wiB A B (nanOf w 9218868437227405312 9218868437227405312) = false) ∧ wiB A B 13830554455654793216 = false) :=
            ⟨by rw [wiB_self, eY], by rw [wiB_inf, eY, eZ], fun w => wiB_none (by rw [tolB_spec, isN_of (nanOf_nan _ _ _).1]; rfl), wiB_none (by decide)⟩
          have yy : (Y != Y) = false := by simp
          have zz : (Z != Z) = false := by simp
          clear eY eZ
          go_wp2_with fail
          refine (within_any B A S HB1.out HA1.out _).mono ?_
          rintro e w3 ⟨rfl, hf3⟩
          rw [eW2]
          have HF3 : Hid (Fr (fun _ => False) w0 w3) := HF2.out.trans hf3 (fun _ _ h => h)
          clear hf3
          cases W
          · go_wp2_with fail
            refine (within_any A A 0 HA1.out HA1.out _).mono ?_
            rintro e w5 ⟨rfl, hf5⟩
            rw [Q.out.1]
            have HF5 : Hid (Fr (fun _ => False) w0 w5) := HF3.out.trans hf5 (fun _ _ h => h)
            clear hf5
            go_wp2_with fail
            refine (within_any A B 9218868437227405312 HA1.out HB1.out _).mono ?_
            rintro e w6 ⟨rfl, hf6⟩
            rw [Q.out.2.1]
            have HF6 : Hid (Fr (fun _ => False) w0 w6) := HF5.out.trans hf6 (fun _ _ h => h)
            clear hf6
            cases Y
            all_goals go_wp2_with fail
            all_goals refine (within_any A B _ HA1.out HB1.out _).mono ?_
            all_goals rintro e w7 ⟨rfl, hf7⟩
            all_goals rw [Q.out.2.2.1]
            all_goals have HF7 : Hid (Fr (fun _ => False) w0 w7) := HF6.out.drew.trans hf7 (fun _ _ h => h)
            all_goals clear hf7
            all_goals go_wp2_with fail
            all_goals refine (within_any A B 13830554455654793216 HA1.out HB1.out _).mono ?_
            all_goals rintro e w8 ⟨rfl, hf8⟩
            all_goals rw [Q.out.2.2.2]
            all_goals have HF8 : Hid (Fr (fun _ => False) w0 w8) := HF7.out.trans hf8 (fun _ _ h => h)
            all_goals clear hf8
            all_goals go_wp2_with fail
            all_goals (go_meet; exact ⟨rfl, HF8.out⟩)
          · have hP := HP.out rfl
            cases G
            · go_wp2_with fail
              refine (within_any A A 0 HA1.out HA1.out _).mono ?_
              rintro e w5 ⟨rfl, hf5⟩
              rw [Q.out.1]
              have HF5 : Hid (Fr (fun _ => False) w0 w5) := HF3.out.trans hf5 (fun _ _ h => h)
              clear hf5
              go_wp2_with fail
              refine (within_any A B 9218868437227405312 HA1.out HB1.out _).mono ?_
              rintro e w6 ⟨rfl, hf6⟩
              rw [Q.out.2.1]
              have HF6 : Hid (Fr (fun _ => False) w0 w6) := HF5.out.trans hf6 (fun _ _ h => h)
              clear hf6
              cases Y
              all_goals go_wp2_with fail
              all_goals refine (within_any A B _ HA1.out HB1.out _).mono ?_
              all_goals rintro e w7 ⟨rfl, hf7⟩
              all_goals rw [Q.out.2.2.1]
              all_goals have HF7 : Hid (Fr (fun _ => False) w0 w7) := HF6.out.drew.trans hf7 (fun _ _ h => h)
              all_goals clear hf7
              all_goals go_wp2_with fail
              all_goals refine (within_any A B 13830554455654793216 HA1.out HB1.out _).mono ?_
              all_goals rintro e w8 ⟨rfl, hf8⟩
              all_goals rw [Q.out.2.2.2]
              all_goals have HF8 : Hid (Fr (fun _ => False) w0 w8) := HF7.out.trans hf8 (fun _ _ h => h)
              all_goals clear hf8
              all_goals go_wp2_with fail
              all_goals (go_meet; exact ⟨rfl, HF8.out⟩)
            · have hT := HG.out rfl rfl
              go_wp2_with fail
              refine (within_any A B T HA1.out HB1.out _).mono ?_
              rintro e w4 ⟨rfl, hf4⟩
              rw [hT]
              have HF4 : Hid (Fr (fun _ => False) w0 w4) := HF3.out.trans hf4 (fun _ _ h => h)
              clear hf4 HF3
              have HF3 : Hid (Fr (fun _ => False) w0 w4) := HF4.out
              clear HF4
              go_wp2_with fail
              refine (within_any A A 0 HA1.out HA1.out _).mono ?_
              rintro e w5 ⟨rfl, hf5⟩
              rw [Q.out.1]
              have HF5 : Hid (Fr (fun _ => False) w0 w5) := HF3.out.trans hf5 (fun _ _ h => h)
              clear hf5
              go_wp2_with fail
              refine (within_any A B 9218868437227405312 HA1.out HB1.out _).mono ?_
              rintro e w6 ⟨rfl, hf6⟩
              rw [Q.out.2.1]
              have HF6 : Hid (Fr (fun _ => False) w0 w6) := HF5.out.trans hf6 (fun _ _ h => h)
              clear hf6
              cases Y
              all_goals go_wp2_with fail
              all_goals refine (within_any A B _ HA1.out HB1.out _).mono ?_
              all_goals rintro e w7 ⟨rfl, hf7⟩
              all_goals rw [Q.out.2.2.1]
              all_goals have HF7 : Hid (Fr (fun _ => False) w0 w7) := HF6.out.drew.trans hf7 (fun _ _ h => h)
              all_goals clear hf7
              all_goals go_wp2_with fail
              all_goals refine (within_any A B 13830554455654793216 HA1.out HB1.out _).mono ?_
              all_goals rintro e w8 ⟨rfl, hf8⟩
              all_goals rw [Q.out.2.2.2]
              all_goals have HF8 : Hid (Fr (fun _ => False) w0 w8) := HF7.out.trans hf8 (fun _ _ h => h)
              all_goals clear hf8
              all_goals go_wp2_with fail
              all_goals (go_meet; exact ⟨rfl, HF8.out⟩)
        case rest =>
          obtain ⟨rfl, hfc⟩ := hcut
          have HFC : Hid (Fr (fun _ => False) w0 wc) := hfc
          clear hfc
          cases W
          · go_wp2_with fail
            go_roundg (61 - (j + 1))
            case measure => omega
            case rel => exact ⟨j + 1, by omega, congrArg (Value.int .i64) (by omega), HFC.out⟩
          · cases hE : eqB A B
            · have oE : (FloatKind.f64.format.order A B != some Ordering.eq) = true := by rw [o_ne, hE]; rfl
              obtain ⟨⟨r1, e1, l1⟩, ⟨r2, e2, l2⟩⟩ := HSL.out rfl hE
              have hop1 : ∀ ty w, (binOp .sub ty (.float .f64 A) (.float .f64 B)).run Try.prog w = .ok (.float .f64 r1) w := fun ty w => run_float_arith w .sub ty .f64 A B _ e1
              have hop2 : ∀ ty w, (binOp .sub ty (.float .f64 B) (.float .f64 A)).run Try.prog w = .ok (.float .f64 r2) w := fun ty w => run_float_arith w .sub ty .f64 B A _ e2
              have k1 : (FloatKind.f64.format.order r1 S == some Ordering.lt || FloatKind.f64.format.order r1 S == some Ordering.eq) = true := by rw [o_le]; exact l1
              have k2 : (FloatKind.f64.format.order r2 S == some Ordering.lt || FloatKind.f64.format.order r2 S == some Ordering.eq) = true := by rw [o_le]; exact l2
              clear e1 e2 l1 l2 hE
              go_wp2_with fail
              go_roundg (61 - (j + 1))
              case measure => omega
              case rel => exact ⟨j + 1, by omega, congrArg (Value.int .i64) (by omega), HFC.out⟩
            · have oE : (FloatKind.f64.format.order A B != some Ordering.eq) = false := by rw [o_ne, hE]; rfl
              clear hE
              go_wp2_with fail
              go_roundg (61 - (j + 1))
              case measure => omega
              case rel => exact ⟨j + 1, by omega, congrArg (Value.int .i64) (by omega), HFC.out⟩
      · have d2 : decide ((j : Int) < 60) = false := decide_eq_false (by omega)
        go_wp2_with fail
        refine (wakes_any _).mono ?_
        rintro e w1 ⟨rfl, hf1⟩
        have HF1 : Hid (Fr (fun _ => False) w w1) := (HA.out.trans HFr.out (fun _ _ h => h)).trans hf1 (fun _ _ h => h)
        clear hf1
        go_wp2_with fail
        all_goals (go_ret; exact ⟨rfl, HF1.out⟩)
    · have d1 : decide ((j : Int) + 3 < n) = false := decide_eq_false (by omega)
      have d1' : decide (j + 3 < n) = false := decide_eq_false (by omega)
      go_wp2_with fail
      refine (wakes_any _).mono ?_
      rintro e w1 ⟨rfl, hf1⟩
      have HF1 : Hid (Fr (fun _ => False) w w1) := (HA.out.trans HFr.out (fun _ _ h => h)).trans hf1 (fun _ _ h => h)
      clear hf1
      go_wp2_with fail
      all_goals (go_ret; exact ⟨rfl, HF1.out⟩)
end Go.Proofs.Ytnfmcdhllplgmab
