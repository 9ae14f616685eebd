/- The law's 'crop': one crop of both sides. -/
import Derived.Test.YtflhbmapikdmhaaDoorYb
import Derived.Test.YtflhbmapikdmhaaDoorSame
namespace Go.Proofs.YtflhbmapikdmhaaDoor
set_option maxRecDepth 100000
open Go.RowKit

theorem cell_of_eight {w : World} {o : Nat} {a b c d e f g h : Value} {t : TypeId} (hb : w.heap[o]? = some (.cells #[a, b, c, d, e, f, g, h] t (0, 0))) :
    w.cell? ⟨o, 0, none⟩ = some a ∧ w.cell? ⟨o, 1, none⟩ = some b ∧ w.cell? ⟨o, 2, none⟩ = some c ∧ w.cell? ⟨o, 3, none⟩ = some d ∧ w.cell? ⟨o, 4, none⟩ = some e ∧ w.cell? ⟨o, 5, none⟩ = some f ∧ w.cell? ⟨o, 6, none⟩ = some g ∧ w.cell? ⟨o, 7, none⟩ = some h := by
  refine ⟨?_, ?_, ?_, ?_, ?_, ?_, ?_, ?_⟩ <;> (unfold World.cell?; simp only [hb]; rfl)
theorem same_true (b g cap W H rg rc : Nat) (P : Nat → Nat → Bool) (w : World) (h : MapAt w b g cap W H P) (hr : RowAt w rg rc W H P) :
    Calls Tryd.prog 19 #[.pointer (some ⟨b, 0, none⟩), .agg #[.int .i64 (W : Int), .int .i64 (H : Int), .slice (some ⟨rg, 0, none⟩) (H * stride W) rc]] w fun e w' => e = .returned (.bool true) ∧ Fr (fun _ => False) w w' := by
  have h1 := same_any b g cap W H P (W : Int) (H : Int) _ _ w h (hr.seen h.words_le)
  rw [show sameB W H P (W : Int) (H : Int) (render W H P) = true by unfold sameB eqB; simp] at h1
  exact h1

set_option linter.unusedSimpArgs false in
set_option maxHeartbeats 40000000 in
theorem crop_law (b g cap W H rg rc : Nat) (P : Nat → Nat → Bool) (n0 n1 n2 n3 n4 n5 n6 n7 : Int) (w : World) (h : MapAt w b g cap W H P) (hr : RowAt w rg rc W H P) (b0 : I64 n0) (b1 : I64 n1) (b2 : I64 n2) (b3 : I64 n3) :
    Calls Tryd.prog 18 #[.pointer (some ⟨b, 0, none⟩), .agg #[.int .i64 (W : Int), .int .i64 (H : Int), .slice (some ⟨rg, 0, none⟩) (H * stride W) rc], .agg #[.int .i64 n0, .int .i64 n1, .int .i64 n2, .int .i64 n3, .int .i64 n4, .int .i64 n5, .int .i64 n6, .int .i64 n7]] w fun e w' => e = .returned (.bool true) ∧ Fr (fun _ => False) w w' := by
  have HM : Hid (∀ w', Fr (fun _ => False) w w' → MapAt w' b g cap W H P) := fun w' f => h.kept f (fun h => h) (fun h => h)
  have HR : Hid (∀ w', Fr (fun _ => False) w w' → RowAt w' rg rc W H P) := fun w' f => hr.kept f (fun h => h)
  have HCB : Hid _ := crop_both W H P n0 n1 n2 n3 h.wpos h.hpos h.area b0 b1 b2 b3
  obtain ⟨N, HN⟩ : ∃ N, Hid (H * stride W = N) := ⟨_, rfl⟩
  rw [HN.out] at HCB ⊢
  obtain ⟨s0, HS0⟩ : ∃ s0, Hid (w.heap.size = s0) := ⟨_, rfl⟩
  have HA : Hid (Fr (fun _ => False) w ((w.alloc (.cells #[.int .i64 (W : Int), .int .i64 (H : Int), .slice (some ⟨rg, 0, none⟩) N rc] 39)).alloc (.cells #[.int .i64 n0, .int .i64 n1, .int .i64 n2, .int .i64 n3, .int .i64 n4, .int .i64 n5, .int .i64 n6, .int .i64 n7] 29))) := ((Fr.refl _ _).alloc _).alloc _
  have HC : Hid (∀ w', Fr (fun _ => False) ((w.alloc (.cells #[.int .i64 (W : Int), .int .i64 (H : Int), .slice (some ⟨rg, 0, none⟩) N rc] 39)).alloc (.cells #[.int .i64 n0, .int .i64 n1, .int .i64 n2, .int .i64 n3, .int .i64 n4, .int .i64 n5, .int .i64 n6, .int .i64 n7] 29)) w' → (w'.cell? ⟨w.heap.size, 0, none⟩ = some (.int .i64 W) ∧ w'.cell? ⟨w.heap.size, 1, none⟩ = some (.int .i64 H) ∧ w'.cell? ⟨w.heap.size, 2, none⟩ = some (.slice (some ⟨rg, 0, none⟩) N rc)) ∧ w'.cell? ⟨w.heap.size + 1, 0, none⟩ = some (.int .i64 n0) ∧ w'.cell? ⟨w.heap.size + 1, 1, none⟩ = some (.int .i64 n1) ∧ w'.cell? ⟨w.heap.size + 1, 2, none⟩ = some (.int .i64 n2) ∧ w'.cell? ⟨w.heap.size + 1, 3, none⟩ = some (.int .i64 n3)) := fun w' hf => by
    have e1 : ((w.alloc (.cells #[.int .i64 (W : Int), .int .i64 (H : Int), .slice (some ⟨rg, 0, none⟩) N rc] 39)).alloc (.cells #[.int .i64 n0, .int .i64 n1, .int .i64 n2, .int .i64 n3, .int .i64 n4, .int .i64 n5, .int .i64 n6, .int .i64 n7] 29)).heap[w.heap.size]? = some (.cells #[.int .i64 (W : Int), .int .i64 (H : Int), .slice (some ⟨rg, 0, none⟩) N rc] 39 (0, 0)) := blkUp (heap_alloc_new _ _) _
    have e2 : ((w.alloc (.cells #[.int .i64 (W : Int), .int .i64 (H : Int), .slice (some ⟨rg, 0, none⟩) N rc] 39)).alloc (.cells #[.int .i64 n0, .int .i64 n1, .int .i64 n2, .int .i64 n3, .int .i64 n4, .int .i64 n5, .int .i64 n6, .int .i64 n7] 29)).heap[w.heap.size + 1]? = some (.cells #[.int .i64 n0, .int .i64 n1, .int .i64 n2, .int .i64 n3, .int .i64 n4, .int .i64 n5, .int .i64 n6, .int .i64 n7] 29 (0, 0)) := by
      have := heap_alloc_new (w.alloc (.cells #[.int .i64 (W : Int), .int .i64 (H : Int), .slice (some ⟨rg, 0, none⟩) N rc] 39)) (.cells #[.int .i64 n0, .int .i64 n1, .int .i64 n2, .int .i64 n3, .int .i64 n4, .int .i64 n5, .int .i64 n6, .int .i64 n7] 29)
      rwa [World.size_alloc] at this
    obtain ⟨a0, a1, a2, _⟩ := cell_of_three ((hf.block _ (lt_of_block e1) (fun h => h)).trans e1)
    obtain ⟨q0, q1, q2, q3, _⟩ := cell_of_eight ((hf.block _ (lt_of_block e2) (fun h => h)).trans e2)
    exact ⟨⟨a0, a1, a2⟩, q0, q1, q2, q3⟩
  have HZ : Hid (∀ w' : World, Calls Tryd.prog 50 #[.int .i64 n2, .int .i64 n3] w' fun e w'' => e = .returned (.bool (sizeOK n2 n3)) ∧ w'' = w') := fun w' => zSize_any n2 n3 w' b2 b3
  have HSP : Hid (sizeOK n2 n3 = true → 0 < n2 ∧ 0 < n3 ∧ n2 ≤ 1048576 ∧ n3 ≤ 1048576 ∧ n2 * n3 ≤ 1048576) := fun e => by
    unfold sizeOK at e
    have e := of_decide_eq_true e
    obtain ⟨q1, q2, q3⟩ := e
    have m1 : n2 * 1 ≤ n2 * n3 := Int.mul_le_mul_of_nonneg_left q2 (by omega)
    have m2 : 1 * n3 ≤ n2 * n3 := Int.mul_le_mul_of_nonneg_right q1 (by omega)
    exact ⟨by omega, by omega, by omega, by omega, q3⟩
  clear h hr b0 b1 b2 b3
  obtain ⟨⟨a0, a1, a2⟩, c0, c1, c2, c3⟩ := HC.out _ (Fr.refl _ _)
  rcases HCB.out with ⟨hsz, hc1, hc2⟩ | ⟨V, U, rfl, rfl, hV, hU, hVU, hc1, hc2⟩
  · rw [hsz] at HZ
    by_cases q0 : 0 < n2
    rotate_left
    · have d0 : decide (0 < n2) = false := decide_eq_false q0
      go_enter Tryd.func18, Tryd.ntmps18
      go_wp2_with fail
      generalize ((w.alloc (.cells #[.int .i64 (W : Int), .int .i64 (H : Int), .slice (some ⟨rg, 0, none⟩) N rc] 39)).alloc (.cells #[.int .i64 n0, .int .i64 n1, .int .i64 n2, .int .i64 n3, .int .i64 n4, .int .i64 n5, .int .i64 n6, .int .i64 n7] 29)) = w0 at *
      refine (hc1 w0 b g cap (HM.out w0 HA.out)).mono ?_
      rintro e w2 ⟨rfl, hf2⟩
      have HF2 : Hid (Fr (fun _ => False) w0 w2) := hf2
      clear a0 a1 a2 c0 c1 c2 c3 hf2
      obtain ⟨⟨a0, a1, a2⟩, c0, c1, c2, c3⟩ := HC.out _ HF2.out
      go_wp2_with fail
      have hc3 := hc2 w2 rg rc (HR.out w2 (HA.out.trans HF2.out (fun _ _ h => h)))
      refine hc3.mono ?_
      rintro e w3 ⟨rfl, hf3⟩
      have HF3 : Hid (Fr (fun _ => False) w w3) := (HA.out.trans HF2.out (fun _ _ h => h)).trans hf3 (fun _ _ h => h)
      clear hc1 hc2 hc3 hf3 a0 a1 a2 c0 c1 c2 c3
      go_wp2_with fail
      go_ret
      exact ⟨rfl, HF3.out.alloc _⟩
    have d0 : decide (0 < n2) = true := decide_eq_true q0
    by_cases q1 : 0 < n3
    rotate_left
    · have d1 : decide (0 < n3) = false := decide_eq_false q1
      go_enter Tryd.func18, Tryd.ntmps18
      go_wp2_with fail
      generalize ((w.alloc (.cells #[.int .i64 (W : Int), .int .i64 (H : Int), .slice (some ⟨rg, 0, none⟩) N rc] 39)).alloc (.cells #[.int .i64 n0, .int .i64 n1, .int .i64 n2, .int .i64 n3, .int .i64 n4, .int .i64 n5, .int .i64 n6, .int .i64 n7] 29)) = w0 at *
      refine (hc1 w0 b g cap (HM.out w0 HA.out)).mono ?_
      rintro e w2 ⟨rfl, hf2⟩
      have HF2 : Hid (Fr (fun _ => False) w0 w2) := hf2
      clear a0 a1 a2 c0 c1 c2 c3 hf2
      obtain ⟨⟨a0, a1, a2⟩, c0, c1, c2, c3⟩ := HC.out _ HF2.out
      go_wp2_with fail
      have hc3 := hc2 w2 rg rc (HR.out w2 (HA.out.trans HF2.out (fun _ _ h => h)))
      refine hc3.mono ?_
      rintro e w3 ⟨rfl, hf3⟩
      have HF3 : Hid (Fr (fun _ => False) w w3) := (HA.out.trans HF2.out (fun _ _ h => h)).trans hf3 (fun _ _ h => h)
      clear hc1 hc2 hc3 hf3 a0 a1 a2 c0 c1 c2 c3
      go_wp2_with fail
      go_ret
      exact ⟨rfl, HF3.out.alloc _⟩
    have d1 : decide (0 < n3) = true := decide_eq_true q1
    by_cases q2 : n2 ≤ 1048576
    rotate_left
    · have d2 : decide (n2 ≤ 1048576) = false := decide_eq_false q2
      go_enter Tryd.func18, Tryd.ntmps18
      go_wp2_with fail
      generalize ((w.alloc (.cells #[.int .i64 (W : Int), .int .i64 (H : Int), .slice (some ⟨rg, 0, none⟩) N rc] 39)).alloc (.cells #[.int .i64 n0, .int .i64 n1, .int .i64 n2, .int .i64 n3, .int .i64 n4, .int .i64 n5, .int .i64 n6, .int .i64 n7] 29)) = w0 at *
      refine (hc1 w0 b g cap (HM.out w0 HA.out)).mono ?_
      rintro e w2 ⟨rfl, hf2⟩
      have HF2 : Hid (Fr (fun _ => False) w0 w2) := hf2
      clear a0 a1 a2 c0 c1 c2 c3 hf2
      obtain ⟨⟨a0, a1, a2⟩, c0, c1, c2, c3⟩ := HC.out _ HF2.out
      go_wp2_with fail
      have hc3 := hc2 w2 rg rc (HR.out w2 (HA.out.trans HF2.out (fun _ _ h => h)))
      refine hc3.mono ?_
      rintro e w3 ⟨rfl, hf3⟩
      have HF3 : Hid (Fr (fun _ => False) w w3) := (HA.out.trans HF2.out (fun _ _ h => h)).trans hf3 (fun _ _ h => h)
      clear hc1 hc2 hc3 hf3 a0 a1 a2 c0 c1 c2 c3
      go_wp2_with fail
      go_ret
      exact ⟨rfl, HF3.out.alloc _⟩
    have d2 : decide (n2 ≤ 1048576) = true := decide_eq_true q2
    by_cases q3 : n3 ≤ 1048576
    rotate_left
    · have d3 : decide (n3 ≤ 1048576) = false := decide_eq_false q3
      go_enter Tryd.func18, Tryd.ntmps18
      go_wp2_with fail
      generalize ((w.alloc (.cells #[.int .i64 (W : Int), .int .i64 (H : Int), .slice (some ⟨rg, 0, none⟩) N rc] 39)).alloc (.cells #[.int .i64 n0, .int .i64 n1, .int .i64 n2, .int .i64 n3, .int .i64 n4, .int .i64 n5, .int .i64 n6, .int .i64 n7] 29)) = w0 at *
      refine (hc1 w0 b g cap (HM.out w0 HA.out)).mono ?_
      rintro e w2 ⟨rfl, hf2⟩
      have HF2 : Hid (Fr (fun _ => False) w0 w2) := hf2
      clear a0 a1 a2 c0 c1 c2 c3 hf2
      obtain ⟨⟨a0, a1, a2⟩, c0, c1, c2, c3⟩ := HC.out _ HF2.out
      go_wp2_with fail
      have hc3 := hc2 w2 rg rc (HR.out w2 (HA.out.trans HF2.out (fun _ _ h => h)))
      refine hc3.mono ?_
      rintro e w3 ⟨rfl, hf3⟩
      have HF3 : Hid (Fr (fun _ => False) w w3) := (HA.out.trans HF2.out (fun _ _ h => h)).trans hf3 (fun _ _ h => h)
      clear hc1 hc2 hc3 hf3 a0 a1 a2 c0 c1 c2 c3
      go_wp2_with fail
      go_ret
      exact ⟨rfl, HF3.out.alloc _⟩
    have d3 : decide (n3 ≤ 1048576) = true := decide_eq_true q3
    go_enter Tryd.func18, Tryd.ntmps18
    go_wp2_with fail
    refine (HZ.out _).mono ?_
    rintro e w1 ⟨rfl, e1⟩
    rw [e1]
    clear e1
    go_wp2_with fail
    generalize ((w.alloc (.cells #[.int .i64 (W : Int), .int .i64 (H : Int), .slice (some ⟨rg, 0, none⟩) N rc] 39)).alloc (.cells #[.int .i64 n0, .int .i64 n1, .int .i64 n2, .int .i64 n3, .int .i64 n4, .int .i64 n5, .int .i64 n6, .int .i64 n7] 29)) = w0 at *
    refine (hc1 w0 b g cap (HM.out w0 HA.out)).mono ?_
    rintro e w2 ⟨rfl, hf2⟩
    have HF2 : Hid (Fr (fun _ => False) w0 w2) := hf2
    clear a0 a1 a2 c0 c1 c2 c3 hf2
    obtain ⟨⟨a0, a1, a2⟩, c0, c1, c2, c3⟩ := HC.out _ HF2.out
    go_wp2_with fail
    have hc3 := hc2 w2 rg rc (HR.out w2 (HA.out.trans HF2.out (fun _ _ h => h)))
    refine hc3.mono ?_
    rintro e w3 ⟨rfl, hf3⟩
    have HF3 : Hid (Fr (fun _ => False) w w3) := (HA.out.trans HF2.out (fun _ _ h => h)).trans hf3 (fun _ _ h => h)
    clear hc1 hc2 hc3 hf3 a0 a1 a2 c0 c1 c2 c3
    go_wp2_with fail
    go_ret
    exact ⟨rfl, HF3.out.alloc _⟩
  · have hs := HSP.out (by unfold sizeOK; rw [decide_eq_true ⟨by omega, by omega, by have e : ((V * U : Nat) : Int) = (V : Int) * (U : Int) := Int.natCast_mul V U; rw [← e]; omega⟩])
    obtain ⟨s1, s2, s3, s4, s5⟩ := hs
    have hsz : sizeOK (V : Int) (U : Int) = true := by unfold sizeOK; rw [decide_eq_true ⟨by omega, by omega, s5⟩]
    rw [hsz] at HZ
    have hmul : (V : Int) * (U : Int) = ((V * U : Nat) : Int) := (Int.natCast_mul V U).symm
    obtain ⟨A, hA⟩ : ∃ A, A = V * U := ⟨_, rfl⟩
    rw [← hA] at hmul hVU
    have d0 : decide (0 < (V : Int)) = true := decide_eq_true s1
    have d1 : decide (0 < (U : Int)) = true := decide_eq_true s2
    have d0' : decide (0 < V) = true := decide_eq_true (by omega)
    have d1' : decide (0 < U) = true := decide_eq_true (by omega)
    have d2 : decide ((V : Int) ≤ 1048576) = true := decide_eq_true s3
    have d3 : decide ((U : Int) ≤ 1048576) = true := decide_eq_true s4
    have d2' : decide (V ≤ 1048576) = true := decide_eq_true (by omega)
    have d3' : decide (U ≤ 1048576) = true := decide_eq_true (by omega)
    have hw1 : IntKind.i64.wrap (A : Int) = (A : Int) := by rw [IntKind.wrap_i64]; omega
    have hw2 : IntKind.i64.wrap (64 * (U : Int)) = 64 * (U : Int) := by rw [IntKind.wrap_i64]; omega
    have hw3 : IntKind.i64.wrap ((A : Int) + 64 * (U : Int)) = (A : Int) + 64 * (U : Int) := by rw [IntKind.wrap_i64]; omega
    clear hA
    by_cases hbig : 60000 < (A : Int) + 64 * (U : Int)
    · have d4 : decide (60000 < (A : Int) + 64 * (U : Int)) = true := decide_eq_true hbig
      have HF0 := HA
      clear hc1 hc2
      go_enter Tryd.func18, Tryd.ntmps18
      go_wp2_with fail
      generalize ((w.alloc (.cells #[.int .i64 (W : Int), .int .i64 (H : Int), .slice (some ⟨rg, 0, none⟩) N rc] 39)).alloc (.cells #[.int .i64 n0, .int .i64 n1, .int .i64 (V : Int), .int .i64 (U : Int), .int .i64 n4, .int .i64 n5, .int .i64 n6, .int .i64 n7] 29)) = w0 at *
      refine (HZ.out _).mono ?_
      rintro e w1 ⟨rfl, e1⟩
      rw [e1]
      clear e1 w1
      go_wp2_with fail
      go_ret
      exact ⟨rfl, HA.out⟩
    · have d4 : decide (60000 < (A : Int) + 64 * (U : Int)) = false := decide_eq_false hbig
      go_enter Tryd.func18, Tryd.ntmps18
      go_wp2_with fail
      generalize ((w.alloc (.cells #[.int .i64 (W : Int), .int .i64 (H : Int), .slice (some ⟨rg, 0, none⟩) N rc] 39)).alloc (.cells #[.int .i64 n0, .int .i64 n1, .int .i64 (V : Int), .int .i64 (U : Int), .int .i64 n4, .int .i64 n5, .int .i64 n6, .int .i64 n7] 29)) = w0 at *
      refine (HZ.out _).mono ?_
      rintro e w1 ⟨rfl, e1⟩
      rw [e1]
      clear e1 w1
      go_wp2_with fail
      refine (hc1 w0 b g cap (HM.out w0 HA.out)).mono ?_
      rintro e w2 ⟨b2, g2, rfl, hn⟩
      have HN2 : Hid (NewMap w0 w2 b2 g2 (U * stride V) V U (cropPix W H P n0 n1)) := hn
      clear a0 a1 a2 c0 c1 c2 c3 hn
      obtain ⟨⟨a0, a1, a2⟩, c0, c1, c2, c3⟩ := HC.out _ HN2.out.fr
      go_wp2_with fail
      have hc3 := hc2 w2 rg rc (HR.out w2 (HA.out.trans HN2.out.fr (fun _ _ h => h)))
      refine hc3.mono ?_
      rintro e w3 ⟨g3, rfl, hr3, hf3, hg3⟩
      have HR3 : Hid (RowAt w3 g3 (U * stride V) V U (cropPix W H P n0 n1)) := hr3
      have HF3 : Hid (Fr (fun _ => False) w2 w3) := hf3
      clear hc1 hc2 hc3 hr3 hf3 hg3 a0 a1 a2 c0 c1 c2 c3
      have HSM : Hid (∀ w', Fr (fun _ => False) w3 w' → Calls Tryd.prog 19 #[.pointer (some ⟨b2, 0, none⟩), .agg #[.int .i64 (V : Int), .int .i64 (U : Int), .slice (some ⟨g3, 0, none⟩) (U * stride V) (U * stride V)]] w' fun e w'' => e = .returned (.bool true) ∧ Fr (fun _ => False) w' w'') := fun w' f => same_true b2 g2 (U * stride V) V U g3 (U * stride V) _ w' (HN2.out.at_.kept (HF3.out.trans f (fun _ _ h => h)) (fun h => h) (fun h => h)) (HR3.out.kept f (fun h => h))
      generalize U * stride V = NV at *
      have hb4 := heap_alloc_new w3 (.cells #[.int .i64 (V : Int), .int .i64 (U : Int), .slice (some ⟨g3, 0, none⟩) NV NV] 39)
      obtain ⟨x0, x1, x2, _⟩ := cell_of_three hb4
      clear hb4
      go_wp2_with fail
      refine (HSM.out _ ((Fr.refl _ _).alloc _)).mono ?_
      rintro e w5 ⟨rfl, hf5⟩
      have HF5 : Hid (Fr (fun _ => False) w w5) := ((((HA.out.trans HN2.out.fr (fun _ _ h => h)).trans HF3.out (fun _ _ h => h)).alloc _).trans hf5 (fun _ _ h => h))
      clear x0 x1 x2 hf5
      go_wp2_with fail
      go_ret
      exact ⟨rfl, HF5.out⟩
end Go.Proofs.YtflhbmapikdmhaaDoor
