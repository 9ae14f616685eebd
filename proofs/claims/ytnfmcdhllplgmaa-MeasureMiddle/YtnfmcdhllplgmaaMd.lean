/- The law 'MeasureMiddle'. -/
import Derived.Test.YtnfmcdhllplgmaaFm
import Derived.Test.YtnfmcdhllplgmaaAp
import Derived.Deep.Cut
import Derived.Deep.CutRange
namespace Go.Proofs.Ytnfmcdhllplgmaa
open Go.RowKit Ieee

/-- What the numbers are cut to. -/
def cutI (F : Nat → Int) (j : Nat) : Int := (F j).tmod 1000
theorem cutI_bound (F : Nat → Int) (j : Nat) : -999 ≤ cutI F j ∧ cutI F j ≤ 999 := by
  unfold cutI
  generalize F j = N
  rcases Int.le_total 0 N with h | h
  · have := Int.tmod_nonneg 1000 h
    have := Int.tmod_lt_of_pos N (b := 1000) (by decide)
    omega
  · have h3 : (-N).tmod 1000 = -(N.tmod 1000) := Int.neg_tmod N _
    have := Int.tmod_nonneg (a := -N) 1000 (by omega)
    have := Int.tmod_lt_of_pos (-N) (b := 1000) (by decide)
    omega
/-- The values, and with their negatives. -/
def allF (F : Nat → Int) (j : Nat) : Nat := fi (cutI F j)
def bothF (F : Nat → Int) (k : Nat) : Nat := if k % 2 = 0 then fi (cutI F (k / 2)) else Op.negFloat .f64 (fi (cutI F (k / 2)))
def bothI (F : Nat → Int) (k : Nat) : Int := if k % 2 = 0 then cutI F (k / 2) else -cutI F (k / 2)
theorem allF_isI (F : Nat → Int) (j : Nat) : IsI (allF F j) (cutI F j) := fi_isI (by have := cutI_bound F j; omega)
theorem fi_lt64 (n : Int) : fi n < 18446744073709551616 := by rw [fi_wo]; exact wo_lt (nr_le _ _)
theorem bothF_isI (F : Nat → Int) (k : Nat) : IsI (bothF F k) (bothI F k) := by
  unfold bothF bothI
  have h := allF_isI F (k / 2)
  split
  · exact h
  · rw [negFloat_ng (fi_lt64 _) (Nat.le_of_lt h.1)]; exact h.ng
theorem bothI_sum (F : Nat → Int) : ∀ k, sumI (bothI F) k = if k % 2 = 0 then cutI F (k / 2) else 0
  | 0 => by simp [sumI, bothI]
  | k + 1 => by
    show sumI (bothI F) k + bothI F (k + 1) = _
    rw [bothI_sum F k]
    unfold bothI
    by_cases h : k % 2 = 0
    · rw [if_pos h, if_neg (by omega), if_neg (by omega), show (k + 1) / 2 = k / 2 from by omega]; omega
    · rw [if_neg h, if_pos (by omega), if_pos (by omega)]; omega
theorem bothCells (F : Nat → Int) (j : Nat) : flCells (bothF F) (2 * (j + 1)) = flCells (bothF F) (2 * j) ++ [.float .f64 (fi (cutI F j)), .float .f64 (Op.negFloat .f64 (fi (cutI F j)))] := by
  rw [show 2 * (j + 1) = 2 * j + 1 + 1 from by omega, flCells_succ, flCells_succ, List.append_assoc]
  unfold bothF
  rw [if_pos (by omega), if_neg (by omega), show 2 * j / 2 = j from by omega, show (2 * j + 1) / 2 = j from by omega]
  rfl
theorem cell_two_new (w : World) (a b : Value) (t : TypeId) (j : Nat) (u : Value) (h : [a, b][j]? = some u) : (w.alloc (.cells #[a, b] t)).cell? ((⟨w.heap.size, 0, none⟩ : Addr).add j) = some u :=
  (World.ownsRow_lit (base := 0) (e := t) (size := 2) w #[a, b] 1 (Nat.zero_le _) (by decide) rfl).cells rfl j u h

theorem flAt_own {w : World} {base n cap : Nat} {ao : Option Addr} {F : Nat → Nat} (h : w.ownsRow base 23 1 (.slice ao n cap) n (flCells F n)) : FlAt w ao n F := by
  obtain ⟨ao', cap', e, hf, _⟩ := FlAt.of_own h
  cases e; exact hf
theorem sumI_const (a : Int) : ∀ k, sumI (fun _ => a) k = ((k + 1 : Nat) : Int) * a
  | 0 => by simp [sumI]
  | k + 1 => by
    show sumI (fun _ => a) k + a = _
    rw [sumI_const a k, Int.natCast_add (k + 1) 1, Int.add_mul ((k + 1 : Nat) : Int)]; simp

/-- Two rows of one's own, apart. -/
def Apart (w0 : World) (u v : Value) : Prop := (∀ k, u.ownBlock = some k → w0.heap.size ≤ k) ∧ (∀ k, v.ownBlock = some k → w0.heap.size ≤ k) ∧ (∀ k, u.ownBlock = some k → v.ownBlock ≠ some k)

set_option maxRecDepth 100000 in
set_option maxHeartbeats 8000000 in
theorem middle_any (ao : Option Addr) (n cap : Nat) (F G : Nat → Int) (w : World) (hn : n ≤ 9223372036854775807) (hv : PairsAt w ao n F G) :
    Calls Try.prog 5 #[.slice ao n cap] w fun e w' => e = .returned (.bool true) ∧ Fr (fun _ => False) w w' := by
  have HC : Hid (∀ w', Fr (fun _ => False) w w' → PairsAt w' ao n F G) := fun w' f => hv.kept f
  clear hv
  obtain ⟨i0, hi, hz0, hz1, hz2⟩ := info_parts Try.infoF
  by_cases hb : n = 0 ∨ 200 < n
  · have wk : ∀ w', Fr (fun _ => False) w w' → Calls Try.prog 11 #[] w' fun e w'' => e = .returned (.bool true) ∧ Fr (fun _ => False) w w'' := fun w' f =>
      (wakes_any w').mono fun e w'' ⟨he, hf⟩ => ⟨he, f.trans hf (fun _ _ h => h)⟩
    have WK : Hid (∀ w', Fr (fun _ => False) w w' → Calls Try.prog 11 #[] w' fun e w'' => e = .returned (.bool true) ∧ Fr (fun _ => False) w w'') := wk
    clear wk
    by_cases h0 : n = 0
    · subst h0
      go_enter Try.func5, Try.ntmps5
      go_wp2_with fail
      refine (WK.out _ (Fr.refl _ _)).mono ?_
      rintro e w1 ⟨rfl, hf1⟩
      have HF1 : Hid (Fr (fun _ => False) w w1) := hf1
      clear hf1
      go_wp2_with fail
      all_goals (go_ret; exact ⟨rfl, HF1.out⟩)
    · have e0 : ((n : Int) == 0) = false := by simp; omega
      have e1 : decide ((200 : Int) < n) = true := decide_eq_true (by omega)
      go_enter Try.func5, Try.ntmps5
      go_wp2_with fail
      refine (WK.out _ (Fr.refl _ _)).mono ?_
      rintro e w1 ⟨rfl, hf1⟩
      have HF1 : Hid (Fr (fun _ => False) w w1) := hf1
      clear hf1
      go_wp2_with fail
      all_goals (go_ret; exact ⟨rfl, HF1.out⟩)
  have n1 : 1 ≤ n := by omega
  have n2 : n ≤ 200 := by omega
  clear hb hn
  have e0 : ((n : Int) == 0) = false := by simp; omega
  have e1 : decide ((200 : Int) < n) = false := decide_eq_false (by omega)
  go_enter Try.func5, Try.ntmps5
  go_wp2_with fail
  go_loopg [3, 4, 5, 6, 7, 8] n (fun q al bo le mo i _ wr => ∃ (j L M : Nat), j + q = n ∧ i = .int .i64 (j : Int) ∧ le = .float .f64 L ∧ mo = .float .f64 M ∧ wr.ownsRow 0 23 1 al j (flCells (allF F) j) ∧ wr.ownsRow 0 23 1 bo (2 * j) (flCells (bothF F) (2 * j)) ∧ Apart w al bo ∧ Hid (0 < j → ∃ lo hi : Int, IsI L lo ∧ IsI M hi ∧ ∀ k, k < j → lo ≤ cutI F k ∧ cutI F k ≤ hi) ∧ Fr (fun _ => False) w wr)
  case atStart => exact ⟨0, 0, 0, by omega, rfl, rfl, rfl, World.ownsRow_nil _ _ _ _, World.ownsRow_nil _ _ _ _, ⟨fun k h => by simp [Value.ownBlock] at h, fun k h => by simp [Value.ownBlock] at h, fun k h => by simp [Value.ownBlock] at h⟩, fun h => absurd h (by omega), Fr.refl _ _⟩
  case round =>
    obtain ⟨j, L, M, hjq, rfl, rfl, rfl, ho1, ho2, hap, HLM, hfr⟩ := hrel
    have HFr : Hid (Fr (fun _ => False) w wr) := hfr
    have HO1 : Hid (wr.ownsRow 0 23 1 u3 j (flCells (allF F) j)) := ho1
    have HO2 : Hid (wr.ownsRow 0 23 1 u4 (2 * j) (flCells (bothF F) (2 * j))) := ho2
    have HAP : Hid (Apart w u3 u4) := hap
    clear ho1 ho2 hap hfr
    by_cases h1 : j < n
    · have d1 : decide (j < n) = true := decide_eq_true h1
      obtain ⟨b, off, rfl, hc⟩ := HC.out wr HFr.out (by omega)
      obtain ⟨c0, c1⟩ := hc j h1
      clear hc c1
      have hsz : w.heap.size ≤ wr.heap.size := HFr.out.size
      have HX : Hid (IsI (fi (cutI F j)) (cutI F j)) := allF_isI F j
      have HE1 : Hid (flCells (allF F) (j + 1) = flCells (allF F) j ++ [.float .f64 (fi (cutI F j))]) := flCells_succ _ j
      have HE2 : Hid (flCells (bothF F) (2 * (j + 1)) = flCells (bothF F) (2 * j) ++ [.float .f64 (fi (cutI F j)), .float .f64 (Op.negFloat .f64 (fi (cutI F j)))]) := bothCells F j
      have ex : ∀ N, F j = N → (F j).tmod 1000 = N.tmod 1000 := fun N h => by rw [h]
      obtain ⟨N, eN⟩ : ∃ x, F j = x := ⟨_, rfl⟩
      have HXN : Hid (cutI F j = N.tmod 1000) := by show _ = _; unfold cutI; rw [eN]
      rw [eN] at c0
      clear ex eN
      obtain ⟨X, eX⟩ : ∃ x, fi (cutI F j) = x := ⟨_, rfl⟩
      have fX : floatOfInt .f64 (N.tmod 1000) = X := by rw [← HXN.out]; exact eX
      rw [eX] at HX HE1 HE2
      have hneg : Op.unary .neg (.float .f64 X) = (pure (.float .f64 (Op.negFloat .f64 X)) : Sem Value) := rfl
      clear eX
      go_upto_region 10 with (fail)
      clear c0 fX
      go_wp2_with (first | (at_builtin; refine wpList_append_row _ rfl _ _ 33 rfl 23 i0 (.float .f64 0) 1 8 Try.underlying33 hi hz0 hz1 hz2 rfl (by decide) _ _ _ rfl (HO1.out.alloc _) ⟨wr.heap.size, 0, none⟩ 1 1 _ rfl rfl (cell_one_new _ _ _) ?_ ?_ ?_ (by decide) ?_))
      · first | exact ⟨rfl, rfl⟩ | (intro u hu; simp at hu; subst hu; rfl)
      · unfold maxLen; omega
      · omega
      intro g1 cap1 w2 hown2 hgrow2 hfresh2 hcc1 hcm1
      have HF2 : Hid (Fr (fun _ => False) w w2) := (HFr.out.alloc _).grown hgrow2 (fun k hk hlt => by have := HAP.out.1 k hk; omega)
      have HP1 : Hid (w2.ownsRow 0 23 1 (.slice (some ⟨g1, 0, none⟩) (j + 1) cap1) (j + 1) (flCells (allF F) (j + 1))) := by rw [HE1.out]; exact hown2
      have HP2 : Hid (w2.ownsRow 0 23 1 u4 (2 * j) (flCells (bothF F) (2 * j))) := (HO2.out.alloc _).kept hgrow2 (by
        cases h4 : u4.ownBlock with
        | none => exact Or.inl rfl
        | some k => exact Or.inr (fun e => HAP.out.2.2 k e.symm h4))
      have HAP2 : Hid (Apart w (.slice (some ⟨g1, 0, none⟩) (j + 1) cap1) u4) := by
        refine ⟨fun k hk => ?_, HAP.out.2.1, fun k hk h4 => ?_⟩
        · simp only [Value.ownBlock, Option.some.injEq] at hk
          rcases hfresh2 with e | e
          · have := HAP.out.1 g1 e; omega
          · (try rw [World.size_alloc] at e); omega
        · simp only [Value.ownBlock, Option.some.injEq] at hk
          rcases hfresh2 with e | e
          · exact HAP.out.2.2 g1 e (by rw [hk]; exact h4)
          · have := (HO2.out.lt k h4).2
            (try rw [World.size_alloc] at e); omega
      clear hown2 hgrow2 hfresh2 hcc1 hcm1
      have hsz2 : w.heap.size ≤ w2.heap.size := HF2.out.size
      clear HO1 HO2 HAP HE1
      go_wp2_with (first | (at_builtin; refine wpList_append_row _ rfl _ _ 33 rfl 23 i0 (.float .f64 0) 1 8 Try.underlying33 hi hz0 hz1 hz2 rfl (by decide) _ _ _ rfl (HP2.out.alloc _) ⟨w2.heap.size, 0, none⟩ 2 2 _ rfl rfl (cell_two_new _ _ _ _) ?_ ?_ ?_ (by decide) ?_))
      · intro u hu; simp at hu; rcases hu with rfl | rfl <;> rfl
      · unfold maxLen; omega
      · omega
      intro g2 cap2 w3 hown3 hgrow3 hfresh3 hcc2 hcm2
      have HF3 : Hid (Fr (fun _ => False) w w3) := (HF2.out.alloc _).grown hgrow3 (fun k hk hlt => by have := HAP2.out.2.1 k hk; omega)
      have HQ2 : Hid (w3.ownsRow 0 23 1 (.slice (some ⟨g2, 0, none⟩) (2 * j + 2) cap2) (2 * (j + 1)) (flCells (bothF F) (2 * (j + 1)))) := by rw [HE2.out]; exact hown3
      have HQ1 : Hid (w3.ownsRow 0 23 1 (.slice (some ⟨g1, 0, none⟩) (j + 1) cap1) (j + 1) (flCells (allF F) (j + 1))) := (HP1.out.alloc _).kept hgrow3 (Or.inr (fun e => HAP2.out.2.2 g1 rfl e.symm))
      have HAP3 : Hid (Apart w (.slice (some ⟨g1, 0, none⟩) (j + 1) cap1) (.slice (some ⟨g2, 0, none⟩) (2 * j + 2) cap2)) := by
        refine ⟨HAP2.out.1, fun k hk => ?_, fun k hk h4 => ?_⟩
        · simp only [Value.ownBlock, Option.some.injEq] at hk
          rcases hfresh3 with e | e
          · have := HAP2.out.2.1 g2 e; omega
          · (try rw [World.size_alloc] at e); omega
        · simp only [Value.ownBlock, Option.some.injEq] at hk h4
          rcases hfresh3 with e | e
          · exact HAP2.out.2.2 g1 rfl (by rw [e]; congr 1; omega)
          · have := (HP1.out.lt g1 rfl).2
            (try rw [World.size_alloc] at e); omega
      clear hown3 hgrow3 hfresh3 hcc2 hcm2 HP1 HP2 HAP2 HE2
      by_cases hj0 : j = 0
      · subst hj0
        go_wp2_with fail
        go_roundg (n - (0 + 1))
        case measure => omega
        case rel =>
          refine ⟨0 + 1, X, X, by omega, congrArg (Value.int .i64) (by omega), rfl, rfl, HQ1.out, HQ2.out, HAP3.out, fun _ => ⟨cutI F 0, cutI F 0, HX.out, HX.out, fun k hk => ?_⟩, HF3.out⟩
          obtain rfl : k = 0 := by omega
          omega
      · have j0 : ((j : Int) == 0) = false := by simp; omega
        obtain ⟨lo, hi', hL, hM, hall⟩ := HLM.out (by omega)
        have HL : Hid (IsI L lo ∧ IsI M hi' ∧ ∀ k, k < j → lo ≤ cutI F k ∧ cutI F k ≤ hi') := ⟨hL, hM, hall⟩
        have q1 : (FloatKind.f64.format.order X L == some Ordering.lt) = decide (cutI F j < lo) := by rw [o_lt]; exact HX.out.lt hL
        have q2 : (FloatKind.f64.format.order X M == some Ordering.gt) = decide (hi' < cutI F j) := by rw [o_gt]; exact hM.lt HX.out
        clear hL hM hall HLM hj0
        by_cases g3 : cutI F j < lo
        · rw [decide_eq_true g3] at q1
          by_cases g4 : hi' < cutI F j
          · rw [decide_eq_true g4] at q2
            go_wp2_with fail
            go_roundg (n - (j + 1))
            case measure => omega
            case rel =>
              refine ⟨j + 1, X, X, by omega, congrArg (Value.int .i64) (by omega), rfl, rfl, HQ1.out, HQ2.out, HAP3.out, fun _ => ⟨cutI F j, cutI F j, HX.out, HX.out, fun k hk => ?_⟩, HF3.out⟩
              by_cases e : k = j
              · subst e; omega
              · have := HL.out.2.2 k (by omega); omega
          · rw [decide_eq_false g4] at q2
            go_wp2_with fail
            go_roundg (n - (j + 1))
            case measure => omega
            case rel =>
              refine ⟨j + 1, X, M, by omega, congrArg (Value.int .i64) (by omega), rfl, rfl, HQ1.out, HQ2.out, HAP3.out, fun _ => ⟨cutI F j, hi', HX.out, HL.out.2.1, fun k hk => ?_⟩, HF3.out⟩
              by_cases e : k = j
              · subst e; omega
              · have := HL.out.2.2 k (by omega); omega
        · rw [decide_eq_false g3] at q1
          by_cases g4 : hi' < cutI F j
          · rw [decide_eq_true g4] at q2
            go_wp2_with fail
            go_roundg (n - (j + 1))
            case measure => omega
            case rel =>
              refine ⟨j + 1, L, X, by omega, congrArg (Value.int .i64) (by omega), rfl, rfl, HQ1.out, HQ2.out, HAP3.out, fun _ => ⟨lo, cutI F j, HL.out.1, HX.out, fun k hk => ?_⟩, HF3.out⟩
              by_cases e : k = j
              · subst e; omega
              · have := HL.out.2.2 k (by omega); omega
          · rw [decide_eq_false g4] at q2
            go_wp2_with fail
            go_roundg (n - (j + 1))
            case measure => omega
            case rel =>
              refine ⟨j + 1, L, M, by omega, congrArg (Value.int .i64) (by omega), rfl, rfl, HQ1.out, HQ2.out, HAP3.out, fun _ => ⟨lo, hi', HL.out.1, HL.out.2.1, fun k hk => ?_⟩, HF3.out⟩
              by_cases e : k = j
              · subst e; omega
              · have := HL.out.2.2 k (by omega); omega
    · have d1 : decide (j < n) = false := decide_eq_false h1
      obtain rfl : j = n := by omega
      obtain ⟨lo, hi', hL, hM, hall⟩ := HLM.out (by omega)
      obtain ⟨g1, cap1, e3, _, k1, k2⟩ := row_form HO1.out (by omega)
      obtain ⟨g2, cap2, e4, _, k3, k4⟩ := row_form HO2.out (by omega)
      subst e3
      subst e4
      have HF1 : Hid (∀ w', Fr (fun _ => False) wr w' → FlAt w' (some ⟨g1, 0, none⟩) j (allF F)) := fun w' f => (flAt_own HO1.out).kept f
      have HF2 : Hid (∀ w', Fr (fun _ => False) wr w' → FlAt w' (some ⟨g2, 0, none⟩) (2 * j) (bothF F)) := fun w' f => (flAt_own HO2.out).kept f
      have KK : Hid (j ≤ cap1 ∧ cap1 ≤ maxLen ∧ 2 * j ≤ cap2 ∧ cap2 ≤ maxLen) := ⟨k1, k2, k3, k4⟩
      have HA : Hid (∀ x, MeanR (allF F) j x → leB L x = true ∧ leB x M = true) := fun x hx => by
        obtain ⟨sm, h3, h4⟩ := hx
        have hs := SumR.isI (a := cutI F) (fun k _ => allF_isI F k) (fun k hk => by have := sumI_bound (a := cutI F) (B := 999) (k := k) (fun q _ => cutI_bound F q); omega) h3
        have q1 := sumI_ge (a := cutI F) (B := lo) (k := j - 1) (fun q hq => (hall q (by omega)).1)
        have q2 := sumI_le (a := cutI F) (B := hi') (k := j - 1) (fun q hq => (hall q (by omega)).2)
        rw [show j - 1 + 1 = j from by omega] at q1 q2
        exact ⟨quo_ge hs n1 (by omega) h4 hL q1, quo_le hs n1 (by omega) h4 hM q2⟩
      have HB : Hid (∀ x, MeanR (bothF F) (2 * j) x → eqB x 0 = true) := fun x hx => by
        obtain ⟨sm, h3, h4⟩ := hx
        have hs := SumR.isI (a := bothI F) (fun k _ => bothF_isI F k) (fun k hk => by rw [bothI_sum]; have := cutI_bound F (k / 2); split <;> omega) h3
        rw [bothI_sum, if_neg (by omega)] at hs
        exact quo_eq hs (by omega) (by omega) h4 (L := 0) (fi_isI (a := 0) (by decide)) (by omega)
      have HS : Hid (∀ x, MeanR (fun _ => allF F 0) j x → eqB x (allF F 0) = true) := fun x hx => by
        obtain ⟨sm, h3, h4⟩ := hx
        have hb := cutI_bound F 0
        have hs := SumR.isI (a := fun _ => cutI F 0) (fun k _ => allF_isI F 0) (fun k hk => by have := sumI_bound (a := fun _ => cutI F 0) (B := 999) (k := k) (fun q _ => hb); omega) h3
        rw [sumI_const, show j - 1 + 1 = j from by omega] at hs
        exact quo_eq hs n1 (by omega) h4 (allF_isI F 0) rfl
      clear hL hM hall HLM k1 k2 k3 k4 HAP
      go_wp2_with fail
      refine (mean_any _ j cap1 (allF F) _ n1 (by omega) KK.out.1 KK.out.2.1 (HF1.out _ (Fr.refl _ _))).mono ?_
      rintro e w1 ⟨x, rfl, hx, hf1⟩
      obtain ⟨hx1, hx2⟩ := HA.out x hx
      have ox1 : (FloatKind.f64.format.order x L == some Ordering.gt || FloatKind.f64.format.order x L == some Ordering.eq) = true := by rw [o_ge]; exact hx1
      have ox2 : (FloatKind.f64.format.order x M == some Ordering.lt || FloatKind.f64.format.order x M == some Ordering.eq) = true := by rw [o_le]; exact hx2
      have HW1 : Hid (Fr (fun _ => False) wr w1) := hf1
      clear hx hx1 hx2 hf1 HA
      go_wp2_with fail
      obtain ⟨X0, eX0⟩ : ∃ x, allF F 0 = x := ⟨_, rfl⟩
      rw [eX0] at HS
      have HG0 : Hid (∀ w', Fr (fun _ => False) w1 w' → w'.cell? ⟨g1, 0, none⟩ = some (.float .f64 X0)) := fun w' f => by
        obtain ⟨b', off', e', hc'⟩ := HF1.out w' (HW1.out.trans f (fun _ _ h => h)) (by omega)
        simp only [Option.some.injEq, Addr.mk.injEq, and_true] at e'
        obtain ⟨rfl, rfl⟩ := e'
        rw [← eX0]
        exact hc' 0 (by omega)
      clear eX0
      go_loopg [10, 11] j (fun q sa i w2 => ∃ m : Nat, m + q = j ∧ i = .int .i64 (m : Int) ∧ w2.ownsRow w1.heap.size 23 1 sa m (flCells (fun _ => X0) m) ∧ Fr (fun _ => False) w1 w2)
      case atStart => exact ⟨0, by omega, rfl, World.ownsRow_nil _ _ _ _, Fr.refl _ _⟩
      case round =>
        obtain ⟨m, hmq, rfl, hown, hfr⟩ := hrel
        have HW2 : Hid (Fr (fun _ => False) w1 wr) := hfr
        have HO : Hid (wr.ownsRow w1.heap.size 23 1 u10 m (flCells (fun _ => X0) m)) := hown
        clear hown hfr
        by_cases h2 : m < j
        · have d2 : decide (m < j) = true := decide_eq_true h2
          have c0 := HG0.out _ HW2.out
          have hsz : w1.heap.size ≤ wr.heap.size := HW2.out.size
          have HE : Hid (flCells (fun _ => X0) (m + 1) = flCells (fun _ => X0) m ++ [.float .f64 X0]) := flCells_succ _ m
          go_wp2_with (first | (at_builtin; refine wpList_append_own _ rfl _ _ 33 rfl w1.heap.size 23 i0 (.float .f64 0) 1 8 Try.underlying33 hi hz0 hz1 hz2 rfl (by decide) _ _ _ rfl (HO.out.alloc _) ⟨wr.heap.size, 0, none⟩ 1 1 _ rfl rfl (cell_one_new _ _ _) ?_ ?_ ?_ ?_ ?_))
          · first | rfl | exact ⟨rfl, rfl⟩ | (intro u hu; simp at hu; subst hu; rfl)
          · unfold maxLen; omega
          · omega
          · first | omega | (simp; omega)
          · intro v' w3 hown3 hgrow3 _
            have HW3 : Hid (Fr (fun _ => False) w1 w3) := (HW2.out.alloc _).grown hgrow3 (fun k hk hlt => by have := (HO.out.lt k hk).1; omega)
            have HO3 : Hid (w3.ownsRow w1.heap.size 23 1 v' (m + 1) (flCells (fun _ => X0) (m + 1))) := by rw [HE.out]; exact hown3
            clear hown3 hgrow3
            go_wp2_with fail
            go_roundg (j - (m + 1))
            case measure => omega
            case rel => exact ⟨m + 1, by omega, congrArg (Value.int .i64) (by omega), HO3.out, HW3.out⟩
        · have d2 : decide (m < j) = false := decide_eq_false h2
          obtain rfl : m = j := by omega
          obtain ⟨g3, cap3, e5, _, k1, k2⟩ := row_form HO.out (by omega)
          subst e5
          have HF3 : Hid (∀ w', Fr (fun _ => False) wr w' → FlAt w' (some ⟨g3, 0, none⟩) m (fun _ => X0)) := fun w' f => (flAt_own HO.out).kept f
          have K2 : Hid (m ≤ cap3 ∧ cap3 ≤ maxLen) := ⟨k1, k2⟩
          clear k1 k2
          have HG2 : Hid (∀ w', Fr (fun _ => False) wr w' → w'.cell? ⟨g1, 0, none⟩ = some (.float .f64 X0)) := fun w' f => HG0.out _ (HW2.out.trans f (fun _ _ h => h))
          have HM2 : Hid (∀ w', Fr (fun _ => False) wr w' → Calls Try.prog 13 #[.slice (some ⟨g2, 0, none⟩) (2 * m) cap2] w' fun e w'' => ∃ y, e = .returned (.float .f64 y) ∧ (FloatKind.f64.format.order y 0 == some Ordering.eq) = true ∧ Fr (fun _ => False) wr w'') := fun w' f =>
            (mean_any _ (2 * m) cap2 (bothF F) w' (by omega) (by omega) KK.out.2.2.1 KK.out.2.2.2 (HF2.out _ ((HW1.out.trans HW2.out (fun _ _ h => h)).trans f (fun _ _ h => h)))).mono fun e w'' ⟨y, he, hy, hf⟩ => ⟨y, he, by rw [o_eq]; exact HB.out y hy, f.trans hf (fun _ _ h => h)⟩
          have HM3 : Hid (∀ w', Fr (fun _ => False) wr w' → Calls Try.prog 13 #[.slice (some ⟨g3, 0, none⟩) m cap3] w' fun e w'' => ∃ y, e = .returned (.float .f64 y) ∧ (FloatKind.f64.format.order y X0 == some Ordering.eq) = true ∧ Fr (fun _ => False) wr w'') := fun w' f =>
            (mean_any _ m cap3 (fun _ => X0) w' n1 (by omega) K2.out.1 K2.out.2 (HF3.out _ f)).mono fun e w'' ⟨y, he, hy, hf⟩ => ⟨y, he, by rw [o_eq]; exact HS.out y hy, f.trans hf (fun _ _ h => h)⟩
          have HMW : Hid (∀ w', Fr (fun _ => False) wr w' → Calls Try.prog 11 #[] w' fun e w'' => e = .returned (.bool true) ∧ Fr (fun _ => False) wr w'') := fun w' f =>
            (wakes_any w').mono fun e w'' ⟨he, hf⟩ => ⟨he, f.trans hf (fun _ _ h => h)⟩
          have HFF : Hid (∀ w', Fr (fun _ => False) wr w' → Fr (fun _ => False) w w') := fun w' f => ((HFr.out.trans HW1.out (fun _ _ h => h)).trans HW2.out (fun _ _ h => h)).trans f (fun _ _ h => h)
          clear HB HS HF1 HF2 HF3 HG0
          have hm0 : 0 < m := by omega
          have hm1 : (0 : Int) < (m : Int) := by omega
          go_wp2_with fail
          go_region_held3 (fun w' => w'.cell? ⟨g1, 0, none⟩ = some (.float .f64 X0)) (exact HG2.out _ (by first | exact Fr.refl _ _ | exact (Fr.refl _ _).drew | exact hf3 | exact hf4 | exact hf5)) (first | (go_at_call 13; (have _ := hf3); refine (HM3.out _ ?_).mono ?_; (first | exact hf3 | exact (Fr.refl _ _).drew); rintro e w4 ⟨z, rfl, oz, hf4⟩) | (go_at_call 13; refine (HM2.out _ ?_).mono ?_; (exact (Fr.refl _ _).drew); rintro e w3 ⟨y, rfl, oy, hf3⟩) | (go_at_call 11; refine (HMW.out _ ?_).mono ?_; (exact hf4); rintro e w5 ⟨rfl, hf5⟩))
          all_goals (have HW5 : Hid (Fr (fun _ => False) w w5) := HFF.out _ hf5)
          all_goals clear hf5
          all_goals go_wp2_with fail
          all_goals (go_ret; exact ⟨rfl, HW5.out⟩)
end Go.Proofs.Ytnfmcdhllplgmaa
