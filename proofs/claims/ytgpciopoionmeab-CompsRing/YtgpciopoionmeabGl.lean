/- The law 'CompsRing'. -/
import Derived.Test.YtgpciopoionmeabWk
import Derived.Test.YtgpciopoionmeabRg
import Derived.Deep.RegionHeld3
namespace Go.Proofs.Ytgpciopoionmeab
open Go.RowKit

/-- Pixels up to a place, in raster order. -/
def kP (Q : Nat → Nat → Bool) (Y X : Nat) : Nat → Nat → Bool := fun a e => decide (e < Y ∨ (e = Y ∧ a < X)) && Q a e
theorem kP_zero (Q : Nat → Nat → Bool) : kP Q 0 0 = fun _ _ => false := by
  funext a e; unfold kP; rw [decide_eq_false (by omega)]; rfl
theorem kP_put (Q : Nat → Nat → Bool) (Y X : Nat) {c : Bool} (hc : Q X Y = c) : putPix (kP Q Y X) X Y c = kP Q Y (X + 1) := by
  funext a e
  unfold putPix kP
  by_cases h : a = X ∧ e = Y
  · obtain ⟨rfl, rfl⟩ := h
    rw [if_pos ⟨rfl, rfl⟩, decide_eq_true (by omega), hc]; rfl
  · rw [if_neg h]
    congr 1
    exact decide_eq_decide.2 (by omega)
theorem kP_skip {Q : Nat → Nat → Bool} {Y X : Nat} (hc : Q X Y = false) : kP Q Y X = kP Q Y (X + 1) := by
  funext a e
  unfold kP
  by_cases h : a = X ∧ e = Y
  · obtain ⟨rfl, rfl⟩ := h
    rw [hc, Bool.and_false, Bool.and_false]
  · congr 1
    exact decide_eq_decide.2 (by omega)
theorem kP_row (Q : Nat → Nat → Bool) (W Y a e : Nat) (ha : a < W) : kP Q Y W a e = kP Q (Y + 1) 0 a e := by
  unfold kP
  congr 1
  exact decide_eq_decide.2 (by omega)
theorem kP_empty {Q : Nat → Nat → Bool} {Y : Nat} (h : ∀ x, Q x Y = false) : kP Q Y 0 = kP Q (Y + 1) 0 := by
  funext a e
  unfold kP
  by_cases c : e = Y
  · subst c; rw [h, Bool.and_false, Bool.and_false]
  · congr 1
    exact decide_eq_decide.2 (by omega)
theorem kP_end (Q : Nat → Nat → Bool) (H a e : Nat) (he : e < H) : kP Q H 0 a e = Q a e := by
  unfold kP; rw [decide_eq_true (by omega)]; rfl
theorem RowAt.pix {w : World} {g cap W H : Nat} {P Q : Nat → Nat → Bool} (h : RowAt w g cap W H P) (e : ∀ x y, x < W → y < H → P x y = Q x y) : RowAt w g cap W H Q := by
  unfold RowAt at h ⊢
  rwa [render_congr e] at h

set_option maxRecDepth 100000 in
set_option maxHeartbeats 8000000 in
theorem ring_any (w : World) : Calls Try.prog 3 #[] w fun e w' => e = .returned (.bool true) ∧ Fr (fun _ => False) w w' := by
  have HP1 : Hid (∀ (g X Y : Nat) (c : Bool) (Q : Nat → Nat → Bool) (w' : World), RowAt w' g (201 * stride 200) 200 201 Q → X < 200 → Y < 201 → Calls Try.prog 5 #[.agg #[.int .i64 200, .int .i64 201, .slice (some ⟨g, 0, none⟩) (201 * stride 200) (201 * stride 200)], .int .i64 X, .int .i64 Y, .int .i64 (c.toNat : Nat)] w' fun e w'' => e = .returned (.tuple #[]) ∧ RowAt w'' g (201 * stride 200) 200 201 (putPix Q X Y c) ∧ Fr (fun k => k = g) w' w'') := fun g X Y c Q w' h hX hY => zput_any 200 201 g _ Q X Y c w' h (by decide) (by decide) (by decide) hX hY
  have HP2 : Hid (∀ (g X Y : Nat) (c : Bool) (Q : Nat → Nat → Bool) (w' : World), RowAt w' g (150 * stride 150) 150 150 Q → X < 150 → Y < 150 → Calls Try.prog 5 #[.agg #[.int .i64 150, .int .i64 150, .slice (some ⟨g, 0, none⟩) (150 * stride 150) (150 * stride 150)], .int .i64 X, .int .i64 Y, .int .i64 (c.toNat : Nat)] w' fun e w'' => e = .returned (.tuple #[]) ∧ RowAt w'' g (150 * stride 150) 150 150 (putPix Q X Y c) ∧ Fr (fun k => k = g) w' w'') := fun g X Y c Q w' h hX hY => zput_any 150 150 g _ Q X Y c w' h (by decide) (by decide) (by decide) hX hY
  have HP3 : Hid (∀ (g X Y : Nat) (c : Bool) (Q : Nat → Nat → Bool) (w' : World), RowAt w' g (100 * stride 100) 100 100 Q → X < 100 → Y < 100 → Calls Try.prog 5 #[.agg #[.int .i64 100, .int .i64 100, .slice (some ⟨g, 0, none⟩) (100 * stride 100) (100 * stride 100)], .int .i64 X, .int .i64 Y, .int .i64 (c.toNat : Nat)] w' fun e w'' => e = .returned (.tuple #[]) ∧ RowAt w'' g (100 * stride 100) 100 100 (putPix Q X Y c) ∧ Fr (fun k => k = g) w' w'') := fun g X Y c Q w' h hX hY => zput_any 100 100 g _ Q X Y c w' h (by decide) (by decide) (by decide) hX hY
  have HZ1 : Hid (∀ w', Calls Try.prog 4 #[.int .i64 200, .int .i64 201] w' fun e w'' => ∃ g, e = .returned (.agg #[.int .i64 200, .int .i64 201, .slice (some ⟨g, 0, none⟩) (201 * stride 200) (201 * stride 200)]) ∧ RowAt w'' g (201 * stride 200) 200 201 (fun _ _ => false) ∧ Fr (fun _ => False) w' w'' ∧ w'.heap.size ≤ g) := fun w' => zwhite_any 200 201 w' (by decide) (by decide) (by decide)
  have HZ2 : Hid (∀ w', Calls Try.prog 4 #[.int .i64 150, .int .i64 150] w' fun e w'' => ∃ g, e = .returned (.agg #[.int .i64 150, .int .i64 150, .slice (some ⟨g, 0, none⟩) (150 * stride 150) (150 * stride 150)]) ∧ RowAt w'' g (150 * stride 150) 150 150 (fun _ _ => false) ∧ Fr (fun _ => False) w' w'' ∧ w'.heap.size ≤ g) := fun w' => zwhite_any 150 150 w' (by decide) (by decide) (by decide)
  have HZ3 : Hid (∀ w', Calls Try.prog 4 #[.int .i64 100, .int .i64 100] w' fun e w'' => ∃ g, e = .returned (.agg #[.int .i64 100, .int .i64 100, .slice (some ⟨g, 0, none⟩) (100 * stride 100) (100 * stride 100)]) ∧ RowAt w'' g (100 * stride 100) 100 100 (fun _ _ => false) ∧ Fr (fun _ => False) w' w'' ∧ w'.heap.size ≤ g) := fun w' => zwhite_any 100 100 w' (by decide) (by decide) (by decide)
  obtain ⟨N1, HN1⟩ : ∃ n, Hid (201 * stride 200 = n) := ⟨_, rfl⟩
  obtain ⟨N2, HN2⟩ : ∃ n, Hid (150 * stride 150 = n) := ⟨_, rfl⟩
  obtain ⟨N3, HN3⟩ : ∃ n, Hid (100 * stride 100 = n) := ⟨_, rfl⟩
  rw [HN1.out] at HP1 HZ1
  rw [HN2.out] at HP2 HZ2
  rw [HN3.out] at HP3 HZ3
  go_enter Try.func3, Try.ntmps3
  go_wp2_with fail
  refine (HZ1.out _).mono ?_
  rintro e w1 ⟨g1, rfl, hr1, hf1, hg1⟩
  have HR1 : Hid (RowAt w1 g1 N1 200 201 (fun _ _ => false)) := hr1
  have HF1 : Hid (Fr (fun _ => False) w w1) := hf1
  have HG1 : Hid (w.heap.size ≤ g1 ∧ g1 < w1.heap.size) := ⟨hg1, hr1.lt⟩
  clear hr1 hf1 hg1 HZ1
  go_wp2_with fail
  refine (HZ2.out _).mono ?_
  rintro e w2 ⟨g2, rfl, hr2, hf2, hg2⟩
  have HR2 : Hid (RowAt w2 g2 N2 150 150 (fun _ _ => false)) := hr2
  have HF2 : Hid (Fr (fun _ => False) (w1.alloc (.cells #[.int .i64 200, .int .i64 201, .slice (some ⟨g1, 0, none⟩) N1 N1] 24)) w2) := hf2
  have HG2 : Hid (w1.heap.size < g2 ∧ g2 < w2.heap.size) := ⟨by rw [World.size_alloc] at hg2; omega, hr2.lt⟩
  clear hr2 hf2 hg2 HZ2
  go_wp2_with fail
  refine (HZ3.out _).mono ?_
  rintro e w3 ⟨g3, rfl, hr3, hf3, hg3⟩
  have HR3 : Hid (RowAt w3 g3 N3 100 100 (fun _ _ => false)) := hr3
  have HF3 : Hid (Fr (fun _ => False) (w2.alloc (.cells #[.int .i64 150, .int .i64 150, .slice (some ⟨g2, 0, none⟩) N2 N2] 24)) w3) := hf3
  have HG3 : Hid (w2.heap.size < g3 ∧ g3 < w3.heap.size) := ⟨by rw [World.size_alloc] at hg3; omega, hr3.lt⟩
  clear hr3 hf3 hg3 HZ3
  obtain ⟨w0, hw0⟩ : ∃ w0, w0 = w3.alloc (.cells #[.int .i64 100, .int .i64 100, .slice (some ⟨g3, 0, none⟩) N3 N3] 24) := ⟨_, rfl⟩
  have HS : Hid (w.heap.size ≤ w1.heap.size ∧ w1.heap.size < w2.heap.size ∧ w2.heap.size < w3.heap.size ∧ w0.heap.size = w3.heap.size + 1) := by
    have a := HF1.out.size
    have b := HF2.out.size
    have c := HF3.out.size
    rw [World.size_alloc] at b c
    exact ⟨a, by omega, by omega, by rw [hw0, World.size_alloc]⟩
  have HF20 : Hid (Fr (fun _ => False) w2 w0) := by rw [hw0]; exact ((Fr.refl (fun _ => False) w2).alloc _ |>.trans HF3.out (fun _ _ h => h)).alloc _
  have HF10 : Hid (Fr (fun _ => False) w1 w0) := (((Fr.refl (fun _ => False) w1).alloc _).trans HF2.out (fun _ _ h => h)).trans HF20.out (fun _ _ h => h)
  have HF0 : Hid (Fr (fun _ => False) w w0) := HF1.out.trans HF10.out (fun _ _ h => h)
  have HR10 : Hid (RowAt w0 g1 N1 200 201 (kP snP 0 0)) := by rw [kP_zero]; exact HR1.out.kept HF10.out (fun h => h)
  have HR20 : Hid (RowAt w0 g2 N2 150 150 (kP bdP 0 0)) := by rw [kP_zero]; exact HR2.out.kept HF20.out (fun h => h)
  have HR30 : Hid (RowAt w0 g3 N3 100 100 (kP dtP 0 0)) := by
    rw [kP_zero, hw0]; exact HR3.out.kept ((Fr.refl (fun _ => False) w3).alloc _) (fun h => h)
  have HB : Hid (∀ w', Fr (fun k => k = g1 ∨ k = g2 ∨ k = g3) w0 w' → (w'.cell? ⟨w1.heap.size, 0, none⟩ = some (.int .i64 200) ∧ w'.cell? ⟨w1.heap.size, 1, none⟩ = some (.int .i64 201) ∧ w'.cell? ⟨w1.heap.size, 2, none⟩ = some (.slice (some ⟨g1, 0, none⟩) N1 N1)) ∧ (w'.cell? ⟨w2.heap.size, 0, none⟩ = some (.int .i64 150) ∧ w'.cell? ⟨w2.heap.size, 1, none⟩ = some (.int .i64 150) ∧ w'.cell? ⟨w2.heap.size, 2, none⟩ = some (.slice (some ⟨g2, 0, none⟩) N2 N2)) ∧ (w'.cell? ⟨w3.heap.size, 0, none⟩ = some (.int .i64 100) ∧ w'.cell? ⟨w3.heap.size, 1, none⟩ = some (.int .i64 100) ∧ w'.cell? ⟨w3.heap.size, 2, none⟩ = some (.slice (some ⟨g3, 0, none⟩) N3 N3))) := fun w' hf => by
    have s := HS.out
    have a1 := HG1.out
    have a2 := HG2.out
    have a3 := HG3.out
    have e1 : w0.heap[w1.heap.size]? = some (.cells #[.int .i64 200, .int .i64 201, .slice (some ⟨g1, 0, none⟩) N1 N1] 24 (0, 0)) := (HF20.out.block _ s.2.1 (fun h => h)).trans ((HF2.out.block _ (by rw [World.size_alloc]; omega) (fun h => h)).trans (heap_alloc_new _ _))
    have e2 : w0.heap[w2.heap.size]? = some (.cells #[.int .i64 150, .int .i64 150, .slice (some ⟨g2, 0, none⟩) N2 N2] 24 (0, 0)) := by
      rw [hw0]
      exact blkUp ((HF3.out.block _ (by rw [World.size_alloc]; omega) (fun h => h)).trans (heap_alloc_new _ _)) _
    have e3 : w0.heap[w3.heap.size]? = some (.cells #[.int .i64 100, .int .i64 100, .slice (some ⟨g3, 0, none⟩) N3 N3] 24 (0, 0)) := by rw [hw0]; exact heap_alloc_new _ _
    obtain ⟨c0, c1, c2, _⟩ := cell_of_three ((hf.block _ (by omega) (by omega)).trans e1)
    obtain ⟨d0, d1, d2, _⟩ := cell_of_three ((hf.block _ (by omega) (by omega)).trans e2)
    obtain ⟨f0, f1, f2, _⟩ := cell_of_three ((hf.block _ (by omega) (by omega)).trans e3)
    exact ⟨⟨c0, c1, c2⟩, ⟨d0, d1, d2⟩, ⟨f0, f1, f2⟩⟩
  have HGN : Hid (g1 ≠ g2 ∧ g1 ≠ g3 ∧ g2 ≠ g3) := by
    have s := HS.out
    have a1 := HG1.out
    have a2 := HG2.out
    have a3 := HG3.out
    exact ⟨by omega, by omega, by omega⟩
  have HTOP : Hid (∀ w', Fr (fun k => k = g1 ∨ k = g2 ∨ k = g3) w0 w' → Fr (fun _ => False) w w') := fun w' hf => HF0.out.trans hf (fun k hk h => by
    have s := HS.out
    have a1 := HG1.out
    have a2 := HG2.out
    have a3 := HG3.out
    omega)
  clear HR1 HR2 HR3 HF1 HF2 HF3
  generalize hb1 : w1.heap.size = b1 at *
  generalize hb2 : w2.heap.size = b2 at *
  generalize hb3 : w3.heap.size = b3 at *
  go_wp2_with fail
  rw [← hw0]
  clear hw0 hb1 hb2 hb3 HF10 HF20 HS HG1 HG2 HG3
  go_loopg [4, 5] 201 (fun q yv _ wr => ∃ Y : Nat, Y + q = 201 ∧ yv = .int .i64 Y ∧ RowAt wr g1 N1 200 201 (kP snP Y 0) ∧ Fr (fun k => k = g1) w0 wr)
  case atStart => exact ⟨0, by omega, rfl, HR10.out, Fr.refl _ _⟩
  case round =>
    clear HR10
    obtain ⟨Y, hYq, rfl, hrow, hfr⟩ := hrel
    have HRY : Hid (RowAt wr g1 N1 200 201 (kP snP Y 0)) := hrow
    have HFY : Hid (Fr (fun k => k = g1) w0 wr) := hfr
    clear hrow hfr
    by_cases hYH : Y < 201
    · have hdY : decide ((Y : Int) < 201) = true := decide_eq_true (by omega)
      go_wp2_with fail
      go_loopg [5] 200 (fun q xv wr => ∃ X : Nat, X + q = 200 ∧ xv = .int .i64 X ∧ RowAt wr g1 N1 200 201 (kP snP Y X) ∧ Fr (fun k => k = g1) w0 wr)
      case atStart => exact ⟨0, by omega, rfl, HRY.out, HFY.out⟩
      case round =>
        clear HRY HFY
        obtain ⟨X, hXq, rfl, hrow, hfr⟩ := hrel
        have HRX : Hid (RowAt wr g1 N1 200 201 (kP snP Y X)) := hrow
        have HFX : Hid (Fr (fun k => k = g1) w0 wr) := hfr
        obtain ⟨⟨c0, c1, c2⟩, _, _⟩ := HB.out _ (hfr.mono (fun _ _ h => .inl h))
        clear hrow hfr
        by_cases hXW : X < 200
        · have hdX : decide ((X : Int) < 200) = true := decide_eq_true (by omega)
          have HQ : Hid (snP X Y = true → Calls Try.prog 5 #[.agg #[.int .i64 200, .int .i64 201, .slice (some ⟨g1, 0, none⟩) N1 N1], .int .i64 X, .int .i64 Y, .int .i64 1] wr fun e w'' => e = .returned (.tuple #[]) ∧ RowAt w'' g1 N1 200 201 (kP snP Y (X + 1)) ∧ Fr (fun k => k = g1) wr w'') := fun hc => by
            have := HP1.out g1 X Y true _ wr HRX.out hXW hYH
            rwa [kP_put _ _ _ hc] at this
          have HN : Hid (snP X Y = false → RowAt wr g1 N1 200 201 (kP snP Y (X + 1))) := fun hc => by rw [← kP_skip hc]; exact HRX.out
          clear HRX
          rcases (show Y % 2 = 0 ∨ Y % 4 = 1 ∨ Y % 4 = 3 by omega) with hm | hm | hm
          · have m2 : (Y : Int) % 2 = 0 := by omega
            have hc : snP X Y = true := by unfold snP; simp only [Bool.or_eq_true, Bool.and_eq_true, decide_eq_true_eq]; omega
            go_wp2_with fail
            refine (HQ.out hc).mono ?_
            rintro e w6 ⟨rfl, hr6, hf6⟩
            have HR6 : Hid (RowAt w6 g1 N1 200 201 (kP snP Y (X + 1))) := hr6
            have HF6 : Hid (Fr (fun k => k = g1) w0 w6) := HFX.out.trans hf6 (fun _ _ h => h)
            clear hr6 hf6 c0 c1 c2
            go_wp2_with fail
            go_roundg (200 - (X + 1))
            case measure => omega
            case rel => exact ⟨X + 1, by omega, rfl, HR6.out, HF6.out⟩
          · have m2 : (Y : Int) % 2 = 1 := by omega
            have m4 : (Y : Int) % 4 = 1 := by omega
            by_cases hx : X = 199
            · subst hx
              have hc : snP 199 Y = true := by unfold snP; rw [hm]; simp
              go_wp2_with fail
              refine (HQ.out hc).mono ?_
              rintro e w6 ⟨rfl, hr6, hf6⟩
              have HR6 : Hid (RowAt w6 g1 N1 200 201 (kP snP Y (199 + 1))) := hr6
              have HF6 : Hid (Fr (fun k => k = g1) w0 w6) := HFX.out.trans hf6 (fun _ _ h => h)
              clear hr6 hf6 c0 c1 c2
              go_wp2_with fail
              go_roundg (200 - (199 + 1))
              case measure => omega
              case rel => exact ⟨199 + 1, by omega, rfl, HR6.out, HF6.out⟩
            · have x1 : ((X : Int) == 199) = false := by rw [beq_eq_false_iff_ne]; omega
              have x2 : decide ((X : Int) = 199) = false := decide_eq_false (by omega)
              have hc : snP X Y = false := by rw [Bool.eq_false_iff]; unfold snP; simp only [ne_eq, Bool.or_eq_true, Bool.and_eq_true, decide_eq_true_eq]; omega
              go_wp2_with fail
              go_roundg (200 - (X + 1))
              case measure => omega
              case rel => exact ⟨X + 1, by omega, rfl, HN.out hc, HFX.out⟩
          · have m2 : (Y : Int) % 2 = 1 := by omega
            have m4 : (Y : Int) % 4 = 3 := by omega
            by_cases hx : X = 0
            · subst hx
              have hc : snP 0 Y = true := by unfold snP; rw [hm]; simp
              go_wp2_with fail
              refine (HQ.out hc).mono ?_
              rintro e w6 ⟨rfl, hr6, hf6⟩
              have HR6 : Hid (RowAt w6 g1 N1 200 201 (kP snP Y (0 + 1))) := hr6
              have HF6 : Hid (Fr (fun k => k = g1) w0 w6) := HFX.out.trans hf6 (fun _ _ h => h)
              clear hr6 hf6 c0 c1 c2
              go_wp2_with fail
              go_roundg (200 - (0 + 1))
              case measure => omega
              case rel => exact ⟨0 + 1, by omega, rfl, HR6.out, HF6.out⟩
            · have x1 : ((X : Int) == 0) = false := by rw [beq_eq_false_iff_ne]; omega
              have x2 : decide ((X : Int) = 0) = false := decide_eq_false (by omega)
              have hc : snP X Y = false := by rw [Bool.eq_false_iff]; unfold snP; simp only [ne_eq, Bool.or_eq_true, Bool.and_eq_true, decide_eq_true_eq]; omega
              go_wp2_with fail
              go_roundg (200 - (X + 1))
              case measure => omega
              case rel => exact ⟨X + 1, by omega, rfl, HN.out hc, HFX.out⟩
        · have hdX : decide ((X : Int) < 200) = false := decide_eq_false (by omega)
          have hXe : X = 200 := by omega
          have HRE : Hid (RowAt wr g1 N1 200 201 (kP snP (Y + 1) 0)) := by
            have := HRX.out
            rw [hXe] at this
            exact this.pix (fun a e ha _ => kP_row snP 200 Y a e ha)
          clear hXe
          go_wp2_with fail
          go_roundg (201 - (Y + 1))
          case measure => omega
          case rel => exact ⟨Y + 1, by omega, rfl, HRE.out, HFX.out⟩
    · have hdY : decide ((Y : Int) < 201) = false := decide_eq_false (by omega)
      have hYe : Y = 201 := by omega
      have HRE : Hid (RowAt wr g1 N1 200 201 snP) := by
        have := HRY.out
        rw [hYe] at this
        exact this.pix (fun a e _ he => kP_end snP 201 a e he)
      have HRB : Hid (RowAt wr g2 N2 150 150 (kP bdP 0 0)) := HR20.out.kept HFY.out (fun h => HGN.out.1 h.symm)
      have HRD : Hid (RowAt wr g3 N3 100 100 (kP dtP 0 0)) := HR30.out.kept HFY.out (fun h => HGN.out.2.1 h.symm)
      have HFA : Hid (Fr (fun k => k = g1 ∨ k = g2 ∨ k = g3) w0 wr) := HFY.out.mono (fun _ _ h => .inl h)
      subst hYe
      clear HRY HFY HR20 HR30 HP1 hYq hYH hdY
      obtain ⟨wA, HWA⟩ : ∃ wA, Hid (wA = wr) := ⟨_, rfl⟩
      rw [← HWA.out] at HRE HRB HRD HFA
      go_wp2_with fail
      go_loopg [6, 7] 150 (fun q yv _ wr => ∃ Y : Nat, Y + q = 150 ∧ yv = .int .i64 Y ∧ RowAt wr g2 N2 150 150 (kP bdP Y 0) ∧ Fr (fun k => k = g2) wA wr)
      case atStart => exact ⟨0, by omega, rfl, by rw [← HWA.out]; exact HRB.out, by rw [← HWA.out]; exact Fr.refl _ _⟩
      case round =>
        clear HRB HWA
        obtain ⟨Y, hYq, rfl, hrow, hfr⟩ := hrel
        have HRY : Hid (RowAt wr g2 N2 150 150 (kP bdP Y 0)) := hrow
        have HFY : Hid (Fr (fun k => k = g2) wA wr) := hfr
        clear hrow hfr
        by_cases hYH : Y < 150
        · have hdY : decide ((Y : Int) < 150) = true := decide_eq_true (by omega)
          go_wp2_with fail
          go_loopg [7] 150 (fun q xv wr => ∃ X : Nat, X + q = 150 ∧ xv = .int .i64 X ∧ RowAt wr g2 N2 150 150 (kP bdP Y X) ∧ Fr (fun k => k = g2) wA wr)
          case atStart => exact ⟨0, by omega, rfl, HRY.out, HFY.out⟩
          case round =>
            clear HRY HFY
            obtain ⟨X, hXq, rfl, hrow, hfr⟩ := hrel
            have HRX : Hid (RowAt wr g2 N2 150 150 (kP bdP Y X)) := hrow
            have HFX : Hid (Fr (fun k => k = g2) wA wr) := hfr
            obtain ⟨_, ⟨c0, c1, c2⟩, _⟩ := HB.out _ (HFA.out.trans hfr (fun _ _ h => .inr (.inl h)))
            clear hrow hfr
            by_cases hXW : X < 150
            · have hdX : decide ((X : Int) < 150) = true := decide_eq_true (by omega)
              have HQ : Hid (Calls Try.prog 5 #[.agg #[.int .i64 150, .int .i64 150, .slice (some ⟨g2, 0, none⟩) N2 N2], .int .i64 X, .int .i64 Y, .int .i64 ((bdP X Y).toNat : Nat)] wr fun e w'' => e = .returned (.tuple #[]) ∧ RowAt w'' g2 N2 150 150 (kP bdP Y (X + 1)) ∧ Fr (fun k => k = g2) wr w'') := by
                have := HP2.out g2 X Y (bdP X Y) _ wr HRX.out hXW hYH
                rwa [kP_put _ _ _ rfl] at this
              have hs : ((X : Int) + (Y : Int)) % 2 = ((bdP X Y).toNat : Nat) := by
                unfold bdP
                by_cases h : (X + Y) % 2 = 1
                · rw [decide_eq_true h]; simp only [Bool.toNat_true]; omega
                · rw [decide_eq_false h]; simp only [Bool.toNat_false]; omega
              generalize (bdP X Y).toNat = cc at *
              clear HRX
              go_wp2_with fail
              refine HQ.out.mono ?_
              rintro e w6 ⟨rfl, hr6, hf6⟩
              have HR6 : Hid (RowAt w6 g2 N2 150 150 (kP bdP Y (X + 1))) := hr6
              have HF6 : Hid (Fr (fun k => k = g2) wA w6) := HFX.out.trans hf6 (fun _ _ h => h)
              clear hr6 hf6 c0 c1 c2
              go_wp2_with fail
              go_roundg (150 - (X + 1))
              case measure => omega
              case rel => exact ⟨X + 1, by omega, rfl, HR6.out, HF6.out⟩
            · have hdX : decide ((X : Int) < 150) = false := decide_eq_false (by omega)
              have hXe : X = 150 := by omega
              have HRE2 : Hid (RowAt wr g2 N2 150 150 (kP bdP (Y + 1) 0)) := by
                have := HRX.out
                rw [hXe] at this
                exact this.pix (fun a e ha _ => kP_row bdP 150 Y a e ha)
              clear hXe
              go_wp2_with fail
              go_roundg (150 - (Y + 1))
              case measure => omega
              case rel => exact ⟨Y + 1, by omega, rfl, HRE2.out, HFX.out⟩
        · have hdY : decide ((Y : Int) < 150) = false := decide_eq_false (by omega)
          have hYe : Y = 150 := by omega
          have HSB : Hid (RowAt wr g2 N2 150 150 bdP) := by
            have := HRY.out
            rw [hYe] at this
            exact this.pix (fun a e _ he => kP_end bdP 150 a e he)
          have HSA : Hid (RowAt wr g1 N1 200 201 snP) := HRE.out.kept HFY.out (fun h => HGN.out.1 h)
          have HRD2 : Hid (RowAt wr g3 N3 100 100 (kP dtP 0 0)) := HRD.out.kept HFY.out (fun h => HGN.out.2.2 h.symm)
          have HFB : Hid (Fr (fun k => k = g1 ∨ k = g2 ∨ k = g3) w0 wr) := HFA.out.trans HFY.out (fun _ _ h => .inr (.inl h))
          subst hYe
          clear HRY HFY HRD HRE HFA HP2 hYq hYH hdY
          obtain ⟨wB, HWB⟩ : ∃ wB, Hid (wB = wr) := ⟨_, rfl⟩
          rw [← HWB.out] at HSA HSB HRD2 HFB
          go_wp2_with fail
          go_loopg [8, 9] 50 (fun q yv _ wr => ∃ Y : Nat, Y + 2 * q = 100 ∧ yv = .int .i64 Y ∧ RowAt wr g3 N3 100 100 (kP dtP Y 0) ∧ Fr (fun k => k = g3) wB wr)
          case atStart => exact ⟨0, by omega, rfl, by rw [← HWB.out]; exact HRD2.out, by rw [← HWB.out]; exact Fr.refl _ _⟩
          case round =>
            clear HRD2 HWB
            obtain ⟨Y, hYq, rfl, hrow, hfr⟩ := hrel
            have HRY : Hid (RowAt wr g3 N3 100 100 (kP dtP Y 0)) := hrow
            have HFY : Hid (Fr (fun k => k = g3) wB wr) := hfr
            clear hrow hfr
            by_cases hYH : Y < 100
            · have hdY : decide ((Y : Int) < 100) = true := decide_eq_true (by omega)
              go_wp2_with fail
              go_loopg [9] 50 (fun q xv wr => ∃ X : Nat, X + 2 * q = 100 ∧ xv = .int .i64 X ∧ RowAt wr g3 N3 100 100 (kP dtP Y X) ∧ Fr (fun k => k = g3) wB wr)
              case atStart => exact ⟨0, by omega, rfl, HRY.out, HFY.out⟩
              case round =>
                clear HRY HFY
                obtain ⟨X, hXq, rfl, hrow, hfr⟩ := hrel
                have HRX : Hid (RowAt wr g3 N3 100 100 (kP dtP Y X)) := hrow
                have HFX : Hid (Fr (fun k => k = g3) wB wr) := hfr
                obtain ⟨_, _, ⟨c0, c1, c2⟩⟩ := HB.out _ (HFB.out.trans hfr (fun _ _ h => .inr (.inr h)))
                clear hrow hfr
                by_cases hXW : X < 100
                · have hdX : decide ((X : Int) < 100) = true := decide_eq_true (by omega)
                  have HQ : Hid (Calls Try.prog 5 #[.agg #[.int .i64 100, .int .i64 100, .slice (some ⟨g3, 0, none⟩) N3 N3], .int .i64 X, .int .i64 Y, .int .i64 1] wr fun e w'' => e = .returned (.tuple #[]) ∧ RowAt w'' g3 N3 100 100 (kP dtP Y (X + 2)) ∧ Fr (fun k => k = g3) wr w'') := by
                    have := HP3.out g3 X Y true _ wr HRX.out hXW hYH
                    rw [kP_put dtP Y X (c := true) (by unfold dtP; rw [decide_eq_true (by omega), decide_eq_true (by omega)]; rfl)] at this
                    rwa [kP_skip (X := X + 1) (show dtP (X + 1) Y = false by unfold dtP; rw [decide_eq_false (by omega)]; rfl)] at this
                  clear HRX
                  go_wp2_with fail
                  refine HQ.out.mono ?_
                  rintro e w6 ⟨rfl, hr6, hf6⟩
                  have HR6 : Hid (RowAt w6 g3 N3 100 100 (kP dtP Y (X + 2))) := hr6
                  have HF6 : Hid (Fr (fun k => k = g3) wB w6) := HFX.out.trans hf6 (fun _ _ h => h)
                  clear hr6 hf6 c0 c1 c2
                  go_wp2_with fail
                  go_roundg ((100 - (X + 2)) / 2)
                  case measure => omega
                  case rel => exact ⟨X + 2, by omega, rfl, HR6.out, HF6.out⟩
                · have hdX : decide ((X : Int) < 100) = false := decide_eq_false (by omega)
                  have hXe : X = 100 := by omega
                  have HRE2 : Hid (RowAt wr g3 N3 100 100 (kP dtP (Y + 2) 0)) := by
                    have := HRX.out
                    rw [hXe] at this
                    have h2 := this.pix (fun a e ha _ => kP_row dtP 100 Y a e ha)
                    rwa [kP_empty (Y := Y + 1) (fun x => by unfold dtP; rw [decide_eq_false (p := (Y + 1) % 2 = 0) (by omega), Bool.and_false])] at h2
                  clear hXe
                  go_wp2_with fail
                  go_roundg ((100 - (Y + 2)) / 2)
                  case measure => omega
                  case rel => exact ⟨Y + 2, by omega, rfl, HRE2.out, HFX.out⟩
            · have hdY : decide ((Y : Int) < 100) = false := decide_eq_false (by omega)
              have hYe : Y = 100 := by omega
              have HSD : Hid (RowAt wr g3 N3 100 100 dtP) := by
                have := HRY.out
                rw [hYe] at this
                exact this.pix (fun a e _ he => kP_end dtP 100 a e he)
              have HTA : Hid (RowAt wr g1 N1 200 201 snP) := HSA.out.kept HFY.out (fun h => HGN.out.2.1 h)
              have HTB : Hid (RowAt wr g2 N2 150 150 bdP) := HSB.out.kept HFY.out (fun h => HGN.out.2.2 h)
              have HFC : Hid (Fr (fun k => k = g1 ∨ k = g2 ∨ k = g3) w0 wr) := HFB.out.trans HFY.out (fun _ _ h => .inr (.inr h))
              subst hYe
              clear HRY HFY HSA HSB HFB HP3 hYq hYH hdY HGN
              have HBm1 : Hid (∀ w', Fr (fun _ => False) wr w' → Bm w' (.slice (some ⟨g1, 0, none⟩) N1 N1) 200 201 snP) := fun w' f => by
                have h := HTA.out.kept f (fun h => h)
                have hs := h.seen (by decide)
                rw [HN1.out] at hs
                exact ⟨hs, fun ao n c e => by simp only [Value.slice.injEq] at e; obtain ⟨_, rfl, rfl⟩ := e; rw [← HN1.out]; unfold maxLen; decide, by decide, by decide, by decide⟩
              have HBm2 : Hid (∀ w', Fr (fun _ => False) wr w' → Bm w' (.slice (some ⟨g2, 0, none⟩) N2 N2) 150 150 bdP) := fun w' f => by
                have h := HTB.out.kept f (fun h => h)
                have hs := h.seen (by decide)
                rw [HN2.out] at hs
                exact ⟨hs, fun ao n c e => by simp only [Value.slice.injEq] at e; obtain ⟨_, rfl, rfl⟩ := e; rw [← HN2.out]; unfold maxLen; decide, by decide, by decide, by decide⟩
              have HBm3 : Hid (∀ w', Fr (fun _ => False) wr w' → Bm w' (.slice (some ⟨g3, 0, none⟩) N3 N3) 100 100 dtP) := fun w' f => by
                have h := HSD.out.kept f (fun h => h)
                have hs := h.seen (by decide)
                rw [HN3.out] at hs
                exact ⟨hs, fun ao n c e => by simp only [Value.slice.injEq] at e; obtain ⟨_, rfl, rfl⟩ := e; rw [← HN3.out]; unfold maxLen; decide, by decide, by decide, by decide⟩
              clear HTA HTB HSD
              have HBX : Hid (∀ w', Fr (fun _ => False) wr w' → (w'.cell? ⟨b1, 0, none⟩ = some (.int .i64 200) ∧ w'.cell? ⟨b1, 1, none⟩ = some (.int .i64 201) ∧ w'.cell? ⟨b1, 2, none⟩ = some (.slice (some ⟨g1, 0, none⟩) N1 N1)) ∧ (w'.cell? ⟨b2, 0, none⟩ = some (.int .i64 150) ∧ w'.cell? ⟨b2, 1, none⟩ = some (.int .i64 150) ∧ w'.cell? ⟨b2, 2, none⟩ = some (.slice (some ⟨g2, 0, none⟩) N2 N2)) ∧ (w'.cell? ⟨b3, 0, none⟩ = some (.int .i64 100) ∧ w'.cell? ⟨b3, 1, none⟩ = some (.int .i64 100) ∧ w'.cell? ⟨b3, 2, none⟩ = some (.slice (some ⟨g3, 0, none⟩) N3 N3))) := fun w' f => HB.out w' (HFC.out.trans f (fun _ _ h => h.elim))
              have HTP : Hid (∀ w', Fr (fun _ => False) wr w' → Fr (fun _ => False) w w') := fun w' f => (HTOP.out _ HFC.out).trans f (fun _ _ h => h)
              clear HB HTOP HFC HF0
              obtain ⟨⟨c0, c1, c2⟩, _, _⟩ := HBX.out _ (Fr.refl _ _)
              go_wp2_with fail
              refine (cof_ok 200 201 _ snP wr (HBm1.out _ (Fr.refl _ _))).mono ?_
              rintro e w5 ⟨rv, L1, fs, rfl, ho1, hfs, hps, hf5⟩
              obtain ⟨q1, rfl, hqW, hqH, hqQ⟩ := sn_pcs hfs hps
              obtain ⟨gL1, cL1, rfl, _⟩ := row_form ho1.own (by simp)
              have HF5 : Hid (Fr (fun _ => False) wr w5) := hf5
              have HC1 : Hid (∀ w', Fr (fun _ => False) w5 w' → (w'.cell? ⟨gL1, 2, none⟩ = some (.int .i64 200) ∧ w'.cell? ⟨gL1, 3, none⟩ = some (.int .i64 201) ∧ w'.cell? ⟨gL1, 4, none⟩ = some (.slice (some ⟨q1.2.1, 0, none⟩) N1 q1.2.2)) ∧ Seen w' (.slice (some ⟨q1.2.1, 0, none⟩) N1 q1.2.2) (render 200 201 snP)) := fun w' hf => by
                have h := row_kept ho1.own hf (fun _ _ h => h)
                obtain ⟨_, _, a2, a3, a4⟩ := cellsPs_at [q1] 0 (by simp)
                rw [← h.cellAt _ (by simp)] at a2 a3 a4
                simp only [List.getElem_cons_zero, hqW, hqH, HN1.out] at a2 a3 a4
                have hr := (ho1.at_ q1 (by simp)).1
                rw [hqW, hqH] at hr
                have hs := ((hr.pix hqQ).kept hf (fun h => h)).seen (by decide)
                rw [HN1.out] at hs
                exact ⟨⟨a2, a3, a4⟩, hs⟩
              clear ho1 hfs hps hf5 hqW hqH hqQ c0 c1 c2
              generalize q1.2.1 = gq at *
              generalize q1.2.2 = cq at *
              obtain ⟨_, ⟨c0, c1, c2⟩, _⟩ := HBX.out _ HF5.out
              go_wp2_with fail
              refine (cof_ok 150 150 _ bdP w5 (HBm2.out _ HF5.out)).mono ?_
              rintro e w6 ⟨rv, L2, fs, rfl, ho2, hfs, hps, hf6⟩
              have hl2 := bd_pcs hfs hps
              obtain ⟨ao2, cL2, rfl⟩ := own_slice ho2.own
              rw [hl2]
              have HF6 : Hid (Fr (fun _ => False) wr w6) := HF5.out.trans hf6 (fun _ _ h => h)
              have HF56 : Hid (Fr (fun _ => False) w5 w6) := hf6
              clear ho2 hfs hps hf6 hl2 c0 c1 c2
              obtain ⟨_, _, ⟨c0, c1, c2⟩⟩ := HBX.out _ HF6.out
              go_wp2_with fail
              refine (cof_ok 100 100 _ dtP w6 (HBm3.out _ HF6.out)).mono ?_
              rintro e w7 ⟨rv, L3, fs, rfl, ho3, hfs, hps, hf7⟩
              obtain ⟨hl3, h51⟩ := dt_pcs hfs hps
              obtain ⟨gL3, cL3, rfl, _⟩ := row_form ho3.own (by omega)
              have HF7 : Hid (Fr (fun _ => False) wr w7) := HF6.out.trans hf7 (fun _ _ h => h)
              have HF57 : Hid (Fr (fun _ => False) w5 w7) := HF56.out.trans hf7 (fun _ _ h => h)
              have HC3 : Hid (∀ w', Fr (fun _ => False) w7 w' → w'.cell? ⟨gL3, 255, none⟩ = some (.int .i64 2) ∧ w'.cell? ⟨gL3, 256, none⟩ = some (.int .i64 2)) := fun w' hf => by
                have h := row_kept ho3.own hf (fun _ _ h => h)
                have hlt : 51 < L3.length := by omega
                obtain ⟨a0, a1, _⟩ := cellsPs_at L3 51 hlt
                obtain ⟨x1, x2⟩ := h51 hlt
                rw [← h.cellAt _ (by omega)] at a0 a1
                rw [x1] at a0
                rw [x2] at a1
                exact ⟨a0, a1⟩
              rw [hl3]
              clear ho3 hfs hps hf7 hl3 h51 c0 c1 c2
              have HK : Hid (∀ w', Fr (fun _ => False) w7 w' → w'.cell? ⟨b1, 0, none⟩ = some (.int .i64 200) ∧ w'.cell? ⟨b1, 1, none⟩ = some (.int .i64 201) ∧ w'.cell? ⟨b1, 2, none⟩ = some (.slice (some ⟨g1, 0, none⟩) N1 N1) ∧ w'.cell? ⟨gL1, 2, none⟩ = some (.int .i64 200) ∧ w'.cell? ⟨gL1, 3, none⟩ = some (.int .i64 201) ∧ w'.cell? ⟨gL1, 4, none⟩ = some (.slice (some ⟨gq, 0, none⟩) N1 cq) ∧ w'.cell? ⟨gL3, 255, none⟩ = some (.int .i64 2) ∧ w'.cell? ⟨gL3, 256, none⟩ = some (.int .i64 2)) := fun w' f => by
                obtain ⟨⟨a, b, c⟩, _⟩ := HBX.out _ (HF7.out.trans f (fun _ _ h => h))
                obtain ⟨⟨d, e, g⟩, _⟩ := HC1.out _ (HF57.out.trans f (fun _ _ h => h))
                obtain ⟨h, i⟩ := HC3.out _ f
                exact ⟨a, b, c, d, e, g, h, i⟩
              have HEQ : Hid (∀ w', Fr (fun _ => False) w7 w' → Calls Try.prog 7 #[.agg #[.int .i64 200, .int .i64 201, .slice (some ⟨gq, 0, none⟩) N1 cq], .agg #[.int .i64 200, .int .i64 201, .slice (some ⟨g1, 0, none⟩) N1 N1]] w' fun e w'' => e = .returned (.bool true) ∧ Fr (fun _ => False) w' w'') := fun w' f => eqBitmap_same 200 201 _ _ _ w' (HC1.out _ (HF57.out.trans f (fun _ _ h => h))).2 (HBm1.out _ (HF7.out.trans f (fun _ _ h => h))).seen
              have HWK : Hid (∀ w', Calls Try.prog 8 #[] w' fun e w'' => e = .returned (.bool true) ∧ Fr (fun _ => False) w' w'') := fun w' => wakes_any w'
              have HTQ : Hid (∀ w', Fr (fun _ => False) w7 w' → Fr (fun _ => False) w w') := fun w' f => HTP.out w' (HF7.out.trans f (fun _ _ h => h))
              clear HBm1 HBm2 HBm3 HBX HC1 HC3 HF5 HF6 HF56 HF57 HF7 HTP
              obtain ⟨k0, k1, k2, k3, k4, k5, k6, k7⟩ := HK.out _ (Fr.refl _ _)
              go_wp2_with fail
              go_region_held3 (fun w' => w'.cell? ⟨b1, 0, none⟩ = some (.int .i64 200) ∧ w'.cell? ⟨b1, 1, none⟩ = some (.int .i64 201) ∧ w'.cell? ⟨b1, 2, none⟩ = some (.slice (some ⟨g1, 0, none⟩) N1 N1) ∧ w'.cell? ⟨gL1, 2, none⟩ = some (.int .i64 200) ∧ w'.cell? ⟨gL1, 3, none⟩ = some (.int .i64 201) ∧ w'.cell? ⟨gL1, 4, none⟩ = some (.slice (some ⟨gq, 0, none⟩) N1 cq) ∧ w'.cell? ⟨gL3, 255, none⟩ = some (.int .i64 2) ∧ w'.cell? ⟨gL3, 256, none⟩ = some (.int .i64 2)) (exact HK.out _ (by repeat (first | with_reducible exact Fr.refl _ _ | with_reducible refine Fr.drew ?_ | with_reducible refine Fr.drewN ?_ _ | with_reducible refine Fr.trans ?_ hf8 (fun _ _ h => h) | with_reducible refine Fr.trans ?_ hf9 (fun _ _ h => h)))) (first | (go_at_call 7; refine (HEQ.out _ (by repeat (first | with_reducible exact Fr.refl _ _ | with_reducible refine Fr.drew ?_ | with_reducible refine Fr.drewN ?_ _))).mono ?_; rintro e w8 ⟨rfl, hf8⟩) | (go_at_call 8; refine (HWK.out _).mono ?_; rintro e w9 ⟨rfl, hf9⟩))
              have HF9 : Hid (Fr (fun _ => False) w w9) := HTQ.out _ (by repeat (first | with_reducible exact Fr.refl _ _ | with_reducible refine Fr.drew ?_ | with_reducible refine Fr.drewN ?_ _ | with_reducible refine Fr.trans ?_ hf8 (fun _ _ h => h) | with_reducible refine Fr.trans ?_ hf9 (fun _ _ h => h)))
              clear hf8 hf9
              go_wp2_with fail
              go_ret
              exact ⟨rfl, HF9.out⟩

end Go.Proofs.Ytgpciopoionmeab
