/- The law 'MeasureScaled'. -/
import Derived.Test.YtnfmcdhllplgmaaFs
import Derived.Test.YtnfmcdhllplgmaaOp
import Derived.Deep.LoopGhost
import Derived.Deep.Cut
import Derived.Deep.CutRange
namespace Go.Proofs.Ytnfmcdhllplgmaa
open Go.RowKit Ieee

set_option maxRecDepth 100000 in
set_option maxHeartbeats 8000000 in
theorem scaled_any (ao : Option Addr) (n cap : Nat) (F G : Nat → Int) (w : World) (hn : n ≤ 9223372036854775807) (hv : PairsAt w ao n F G) (hb : ∀ j, j < n → I64 (F j) ∧ I64 (G j)) :
    Calls Try.prog 4 #[.slice ao n cap] w fun e w' => e = .returned (.bool true) ∧ Fr (fun _ => False) w w' := by
  have HC : Hid (∀ w', Fr (fun _ => False) w w' → PairsAt w' ao n F G) := fun w' f => hv.kept f
  have HBD : Hid (∀ j, j < n → I64 (F j) ∧ I64 (G j)) := hb
  clear hv hb
  go_enter Try.func4, Try.ntmps4
  go_wp2_with fail
  go_loopg [3, 4, 5, 6, 7, 8, 9, 10, 11, 12, 13, 14] 101 (fun q i _ _ _ _ _ _ _ _ _ _ _ wr => ∃ j : Nat, j + q = 101 ∧ i = .int .i64 (j : Int) ∧ Fr (fun _ => False) w wr)
  case atStart => exact ⟨0, by omega, rfl, Fr.refl _ _⟩
  case round =>
    obtain ⟨j, hjq, rfl, hfr⟩ := hrel
    have HFr : Hid (Fr (fun _ => False) w wr) := hfr
    have HP := HC.out _ hfr
    clear hfr
    by_cases h1 : j < n
    · have d1 : decide (j < n) = true := decide_eq_true h1
      by_cases h2 : j < 100
      · have d2 : decide ((j : Int) < 100) = true := decide_eq_true (by omega)
        obtain ⟨b, off, rfl, hc⟩ := HP (by omega)
        have HK : Hid (∀ w', Fr (fun _ => False) w w' → w'.cell? ⟨b, off + j * 2, none⟩ = some (.int .i64 (F j)) ∧ w'.cell? ⟨b, off + j * 2 + 1, none⟩ = some (.int .i64 (G j))) := fun w' f => by
          obtain ⟨b', off', e', hc'⟩ := HC.out w' f (by omega)
          simp only [Option.some.injEq, Addr.mk.injEq, and_true] at e'
          obtain ⟨rfl, rfl⟩ := e'
          exact hc' j h1
        clear hc HP
        obtain ⟨N, eN⟩ : ∃ x, F j = x := ⟨_, rfl⟩
        obtain ⟨D, eD⟩ : ∃ x, G j = x := ⟨_, rfl⟩
        have HI := HBD.out j h1
        rw [eN, eD] at HI HK
        have HII : Hid (I64 N ∧ I64 D) := HI
        clear HI eN eD
        obtain ⟨c0, c1⟩ := HK.out _ HFr.out
        go_upto_region 7 with (fail)
        have hm : -1099511627776 < N.tmod 1099511627776 ∧ N.tmod 1099511627776 < 1099511627776 := by
          rcases Int.le_total 0 N with h | h
          · have := Int.tmod_nonneg 1099511627776 h
            have := Int.tmod_lt_of_pos N (b := 1099511627776) (by decide)
            omega
          · have h3 : (-N).tmod 1099511627776 = -(N.tmod 1099511627776) := Int.neg_tmod N _
            have := Int.tmod_nonneg (a := -N) 1099511627776 (by omega)
            have := Int.tmod_lt_of_pos (-N) (b := 1099511627776) (by decide)
            omega
        have hd : -1099511627776 < D.tmod 1099511627776 ∧ D.tmod 1099511627776 < 1099511627776 := by
          rcases Int.le_total 0 D with h | h
          · have := Int.tmod_nonneg 1099511627776 h
            have := Int.tmod_lt_of_pos D (b := 1099511627776) (by decide)
            omega
          · have h3 : (-D).tmod 1099511627776 = -(D.tmod 1099511627776) := Int.neg_tmod D _
            have := Int.tmod_nonneg (a := -D) 1099511627776 (by omega)
            have := Int.tmod_lt_of_pos (-D) (b := 1099511627776) (by decide)
            omega
        have hk : 1 ≤ 1 + (j : Int) % 7 ∧ 1 + (j : Int) % 7 ≤ 7 := by omega
        generalize N.tmod 1099511627776 = m at hm ⊢
        generalize D.tmod 1099511627776 = d at hd ⊢
        generalize 1 + (j : Int) % 7 = k at hk ⊢
        have bd : ∀ z : Int, -1099511627776 < z → z < 1099511627776 → -7696581394432 ≤ k * z ∧ k * z ≤ 7696581394432 := by
          intro z h3 h4
          obtain rfl | rfl | rfl | rfl | rfl | rfl | rfl : k = 1 ∨ k = 2 ∨ k = 3 ∨ k = 4 ∨ k = 5 ∨ k = 6 ∨ k = 7 := by omega
          all_goals omega
        obtain ⟨m1, m2⟩ := hm
        obtain ⟨d3, d4⟩ := hd
        obtain ⟨k1, k2⟩ := bd m m1 m2
        obtain ⟨k3, k4⟩ := bd d d3 d4
        have hk0 : Hid (0 < k) := by show 0 < k; omega
        clear bd hk
        have ex : ∀ z : Int, -9007199254740992 ≤ z → z ≤ 9007199254740992 → exB z = true := fun z h3 h4 => by unfold exB; rw [decide_eq_true h3, decide_eq_true h4]; rfl
        have E1 : Hid (exB m = true) := ex _ (by omega) (by omega)
        have E2 : Hid (exB d = true) := ex _ (by omega) (by omega)
        have E3 : Hid (exB (k * m) = true) := ex _ (by omega) (by omega)
        have E4 : Hid (exB (k * d) = true) := ex _ (by omega) (by omega)
        have E5 : Hid (exB (-m) = true) := ex _ (by omega) (by omega)
        have E6 : Hid (exB (m + 1) = true) := ex _ (by omega) (by omega)
        have E8 : Hid (exB (d - m) = true) := ex _ (by omega) (by omega)
        clear ex c0 c1
        go_wp2_with fail
        refine (share_ok m d E1.out E2.out _).mono ?_
        rintro e w1 ⟨x, rfl, hx, hf1⟩
        have HX : Hid (ShP m d x) := hx
        have HF1 : Hid (Fr (fun _ => False) w w1) := HFr.out.trans hf1 (fun _ _ h => h)
        clear hx hf1
        go_wp2_with fail
        refine (share_ok (k * m) (k * d) E3.out E4.out _).mono ?_
        rintro e w2 ⟨y, rfl, hy, hf2⟩
        have HY : Hid (ShP (k * m) (k * d) y) := hy
        have HF2 : Hid (Fr (fun _ => False) w w2) := HF1.out.trans hf2 (fun _ _ h => h)
        clear hy hf2
        go_wp2_with fail
        refine (share_ok (-m) d E5.out E2.out _).mono ?_
        rintro e w3 ⟨z, rfl, hz, hf3⟩
        have HZ : Hid (ShP (-m) d z) := hz
        have HF3 : Hid (Fr (fun _ => False) w w3) := HF2.out.trans hf3 (fun _ _ h => h)
        clear hz hf3
        go_upto_region 10 with (fail)
        have HSC : Hid ((isN x = true ↔ m = 0 ∧ d = 0) ∧ isN y = isN x ∧ (isN x = false → eqB x y = true)) := ShP.scaled hk0.out HX.out HY.out E1.out E2.out E3.out E4.out
        obtain ⟨X, eX⟩ : ∃ b, (!isN x) = b := ⟨_, rfl⟩
        have oX : (FloatKind.f64.format.order x x == some Ordering.eq) = X := by rw [o_eq, eqB_self, eX]
        have oY : (FloatKind.f64.format.order y y == some Ordering.eq) = X := by rw [o_eq, eqB_self, HSC.out.2.1, eX]
        have HXY : Hid (X = true → (FloatKind.f64.format.order x y != some Ordering.eq) = false) := fun h => by
          rw [o_ne, HSC.out.2.2 (by rw [← eX] at h; simpa using h)]; rfl
        have HXZ : Hid (X = true → (FloatKind.f64.format.order z (Op.negFloat .f64 x) != some Ordering.eq) = false) := fun h => by
          rw [o_ne, ShP.neg HX.out HZ.out E1.out E2.out E5.out (by rw [← eX] at h; simpa using h)]; rfl
        have HXM : Hid (X = false ↔ m = 0 ∧ d = 0) := by
          show _ ↔ _
          rw [← HSC.out.1, ← eX]; simp
        have hneg : Op.unary .neg (.float .f64 x) = (pure (.float .f64 (Op.negFloat .f64 x)) : Sem Value) := rfl
        have xx : (X != X) = false := by simp
        clear eX
        go_cut [114] from 63 to 113 (fun u wc => u = .bool false ∧ wc = w3)
        case first =>
          cases X
          · obtain ⟨z1, z2⟩ := HXM.out.1 rfl
            have a0 : (m != 0) = false := by rw [z1]; rfl
            have b0 : (d != 0) = false := by rw [z2]; rfl
            have a0' : (m == 0) = true := by rw [z1]; rfl
            have b0' : (d == 0) = true := by rw [z2]; rfl
            have a1 : decide (m = 0) = true := decide_eq_true z1
            have b1 : decide (d = 0) = true := decide_eq_true z2
            clear z1 z2
            go_wp2_with fail
            go_meet
            exact ⟨rfl, rfl⟩
          · have q1 := HXY.out rfl
            have q2 := HXZ.out rfl
            by_cases h0 : m = 0
            · have h3 : d ≠ 0 := fun h => by have := HXM.out.2 ⟨h0, h⟩; cases this
              have d0 : (d != 0) = true := by simpa using h3
              have d0' : (d == 0) = false := by simpa using h3
              have d0'' : decide (d = 0) = false := decide_eq_false h3
              have a0 : (m != 0) = false := by rw [h0]; rfl
              have a0' : (m == 0) = true := by rw [h0]; rfl
              have a0'' : decide (m = 0) = true := decide_eq_true h0
              clear h0 h3
              go_wp2_with fail
              go_meet
              exact ⟨rfl, rfl⟩
            · have d0 : (m != 0) = true := by simpa using h0
              have d0' : (m == 0) = false := by simpa using h0
              have d0'' : decide (m = 0) = false := decide_eq_false h0
              clear h0
              go_wp2_with fail
              go_meet
              exact ⟨rfl, rfl⟩
        case rest =>
          obtain ⟨rfl, rfl⟩ := hcut
          clear hneg oX oY HXY HXZ HXM xx HSC HY HZ X
          by_cases hdp : d ≤ 0
          · have dp : decide (d ≤ 0) = true := decide_eq_true hdp
            clear hdp
            go_wp2_with fail
            go_roundg (101 - (j + 1))
            case measure => omega
            case rel => exact ⟨j + 1, by omega, congrArg (Value.int .i64) (by omega), HF3.out⟩
          · have dp : decide (d ≤ 0) = false := decide_eq_false hdp
            have HDP : Hid (0 < d) := by show 0 < d; omega
            go_wp2_with fail
            refine (share_ok (m + 1) d E6.out E2.out _).mono ?_
            rintro e w4 ⟨y, rfl, hy, hf4⟩
            have hml : (FloatKind.f64.format.order y x == some Ordering.lt) = false := by rw [o_lt]; exact ShP.more HDP.out HX.out hy E1.out E2.out E6.out
            have HF4 : Hid (Fr (fun _ => False) w w4) := HF3.out.trans hf4 (fun _ _ h => h)
            clear hy hf4
            go_wp2_with fail
            refine (share_ok (d - m) d E8.out E2.out _).mono ?_
            rintro e w5 ⟨z, rfl, hz, hf5⟩
            have HZ : Hid (ShP (d - m) d z) := hz
            have HF5 : Hid (Fr (fun _ => False) w w5) := HF4.out.trans hf5 (fun _ _ h => h)
            clear hz hf5
            go_upto_region 15 with (fail)
            go_cut [158] from 132 to 157 (fun u wc => u = .bool false ∧ Fr (fun _ => False) w wc)
            case first =>
              by_cases g1 : 0 ≤ m
              · have p1 : decide (0 ≤ m) = true := decide_eq_true g1
                by_cases g2 : m ≤ d
                · have p2 : decide (m ≤ d) = true := decide_eq_true g2
                  obtain ⟨s, es, sl, hw⟩ := ShP.rest g1 g2 HDP.out HX.out HZ.out E1.out E2.out E8.out
                  have hop : ∀ ty w, (binOp .add ty (.float .f64 x) (.float .f64 z)).run Try.prog w = .ok (.float .f64 s) w := fun ty w => run_float_arith w .add ty .f64 x z _ es
                  have SL : Hid (s < 18446744073709551616) := sl
                  clear es sl g1 g2
                  go_wp2_with fail
                  refine (within_any s 4607182418800017408 4517329193108106637 SL.out (by decide) _).mono ?_
                  rintro e w6 ⟨rfl, hf6⟩
                  rw [hw]
                  have HF6 : Hid (Fr (fun _ => False) w w6) := HF5.out.trans hf6 (fun _ _ h => h)
                  clear hf6
                  go_wp2_with fail
                  go_meet
                  exact ⟨rfl, HF6.out⟩
                · have p2 : decide (m ≤ d) = false := decide_eq_false g2
                  clear g1 g2
                  go_wp2_with fail
                  go_meet
                  exact ⟨rfl, HF5.out⟩
              · have p1 : decide (0 ≤ m) = false := decide_eq_false g1
                clear g1
                go_wp2_with fail
                go_meet
                exact ⟨rfl, HF5.out⟩
            case rest =>
              obtain ⟨rfl, hfc⟩ := hcut
              have HFC : Hid (Fr (fun _ => False) w wc) := hfc
              clear hfc
              go_wp2_with fail
              go_roundg (101 - (j + 1))
              case measure => omega
              case rel => exact ⟨j + 1, by omega, congrArg (Value.int .i64) (by omega), HFC.out⟩
      · have d2 : decide ((j : Int) < 100) = false := decide_eq_false (by omega)
        clear HP
        go_wp2_with fail
        refine (wakes_any _).mono ?_
        rintro e w1 ⟨rfl, hf1⟩
        have HF1 : Hid (Fr (fun _ => False) w w1) := HFr.out.trans hf1 (fun _ _ h => h)
        clear hf1
        go_wp2_with fail
        all_goals (go_ret; exact ⟨rfl, HF1.out⟩)
    · have d1 : decide (j < n) = false := decide_eq_false h1
      clear HP
      go_wp2_with fail
      refine (wakes_any _).mono ?_
      rintro e w1 ⟨rfl, hf1⟩
      have HF1 : Hid (Fr (fun _ => False) w w1) := HFr.out.trans hf1 (fun _ _ h => h)
      clear hf1
      go_wp2_with fail
      all_goals (go_ret; exact ⟨rfl, HF1.out⟩)
end Go.Proofs.Ytnfmcdhllplgmaa
