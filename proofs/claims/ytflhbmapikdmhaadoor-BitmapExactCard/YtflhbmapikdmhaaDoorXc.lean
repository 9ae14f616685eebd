/- The reference's 'Crop'. -/
import Derived.Test.YtflhbmapikdmhaaDoorXr
import Derived.Test.YtflhbmapikdmhaaDoorMay
import Derived.Deep.RegionHeld3
namespace Go.Proofs.YtflhbmapikdmhaaDoor
set_option maxRecDepth 100000
open Go.RowKit

theorem crop_setG {x y A1 C1 A2 C2 J : Int} {W H V U : Nat} (P : Nat → Nat → Bool) (s1 : SpanOK x V W A1 C1) (s2 : SpanOK y U H A2 C2) (h3 : C2 ≤ J) :
    ∀ a e, a < V → e < U → setG (cropPix W H P x y) 0 0 A1 C1 A2 J A1 (fun _ _ => false) a e = cropPix W H P x y a e := by
  intro a e ha he
  have i1 := s1.iff (a : Int) (by omega) (by omega)
  have i2 := s2.iff (e : Int) (by omega) (by omega)
  unfold setG
  by_cases q : A2 ≤ (e : Int) - 0 ∧ A1 ≤ (a : Int) - 0 ∧ (a : Int) - 0 < C1 ∧ ((e : Int) - 0 < J ∨ ((e : Int) - 0 = J ∧ (a : Int) - 0 < A1))
  · rw [if_pos q]
  · rw [if_neg q]
    unfold cropPix
    rw [getPix_out]
    rintro ⟨q1, q2, q3, q4⟩
    have k1 := i1.1 ⟨q1, q2⟩
    have k2 := i2.1 ⟨q3, q4⟩
    omega

set_option linter.unusedSimpArgs false in
set_option maxHeartbeats 4000000 in
theorem rcrop_no (W H : Nat) (v : Value) (x y ww hh : Int) (w : World) (hv : ∃ ao n cap, v = .slice ao n cap) (hw : -9223372036854775808 ≤ ww ∧ ww ≤ 9223372036854775807) (hh' : -9223372036854775808 ≤ hh ∧ hh ≤ 9223372036854775807) (hs : sizeOK ww hh = false) :
    Calls Tryd.prog 52 #[.agg #[.int .i64 (W : Int), .int .i64 (H : Int), v], .int .i64 x, .int .i64 y, .int .i64 ww, .int .i64 hh] w fun e w' => e = .returned (.tuple #[.agg #[.int .i64 0, .int .i64 0, .slice none 0 0], .int .i64 20]) ∧ Fr (fun _ => False) w w' := by
  obtain ⟨ao, n, cap, rfl⟩ := hv
  have HF1 : Hid (Fr (fun _ => False) w ((w.alloc (.cells #[.int .i64 (W : Int), .int .i64 (H : Int), .slice ao n cap] 39)).alloc (.cells #[.int .i64 0, .int .i64 0, .slice none 0 0] 39))) := ((Fr.refl _ w).alloc _).alloc _
  have HB1 : Hid (((w.alloc (.cells #[.int .i64 (W : Int), .int .i64 (H : Int), .slice ao n cap] 39)).alloc (.cells #[.int .i64 0, .int .i64 0, .slice none 0 0] 39)).heap[w.heap.size + 1]? = some (.cells #[.int .i64 0, .int .i64 0, .slice none 0 0] 39 (0, 0))) := by
    have := heap_alloc_new (w.alloc (.cells #[.int .i64 (W : Int), .int .i64 (H : Int), .slice ao n cap] 39)) (.cells #[.int .i64 0, .int .i64 0, .slice none 0 0] 39)
    rwa [World.size_alloc] at this
  have HZ : Hid (∀ w' : World, Calls Tryd.prog 50 #[.int .i64 ww, .int .i64 hh] w' fun e w'' => e = .returned (.bool false) ∧ w'' = w') := fun w' => by
    have := zSize_any ww hh w' hw hh'
    rwa [hs] at this
  clear hw hh' hs
  go_enter Tryd.func52, Tryd.ntmps52
  go_wp2_with fail
  generalize (w.alloc (.cells #[.int .i64 (W : Int), .int .i64 (H : Int), .slice ao n cap] 39)).alloc (.cells #[.int .i64 0, .int .i64 0, .slice none 0 0] 39) = w0 at *
  refine (HZ.out _).mono ?_
  rintro e w1 ⟨rfl, rfl⟩
  obtain ⟨z0, z1, z2, zf⟩ := cell_of_three HB1.out
  have y0 := zf 0
  have y1 := zf 1
  have y2 := zf 2
  have hb5 := three_all (x' := .int .i64 0) (y' := .int .i64 0) (z' := .slice none 0 0) HB1.out
  have HF5 : Hid (Fr (fun _ => False) w (((w1.setCell ⟨w.heap.size + 1, 0, none⟩ (.int .i64 0)).setCell ⟨w.heap.size + 1, 1, none⟩ (.int .i64 0)).setCell ⟨w.heap.size + 1, 2, none⟩ (.slice none 0 0))) := Fr.own3 HF1.out _ (by omega) _ _ _
  clear zf
  go_wp2_with fail
  generalize ((w1.setCell ⟨w.heap.size + 1, 0, none⟩ (.int .i64 0)).setCell ⟨w.heap.size + 1, 1, none⟩ (.int .i64 0)).setCell ⟨w.heap.size + 1, 2, none⟩ (.slice none 0 0) = w5 at hb5 HF5 ⊢
  obtain ⟨m0, m1, m2, _⟩ := cell_of_three hb5
  (try simp only [Exit.inBlock, Exit.then])
  refine bodyPost_ret (v := .tuple #[.agg #[.int .i64 0, .int .i64 0, .slice none 0 0], .int .i64 20]) (by simp [results, Tryd.results52, go_sem, m0, m1, m2]) rfl ?_
  exact ⟨rfl, HF5.out⟩

set_option linter.unusedSimpArgs false in
set_option maxHeartbeats 40000000 in
theorem rcrop_ok (W H : Nat) (v : Value) (P : Nat → Nat → Bool) (x y : Int) (V U : Nat) (w : World) (hv : Seen w v (render W H P)) (h1 : 1 ≤ W) (h2 : 1 ≤ H) (h3 : W * H ≤ 1048576) (k1 : 1 ≤ V) (k2 : 1 ≤ U) (k3 : V * U ≤ 1048576)
    (b1 : -9223372036854775808 ≤ x ∧ x ≤ 9223372036854775807) (b2 : -9223372036854775808 ≤ y ∧ y ≤ 9223372036854775807) :
    Calls Tryd.prog 52 #[.agg #[.int .i64 (W : Int), .int .i64 (H : Int), v], .int .i64 x, .int .i64 y, .int .i64 V, .int .i64 U] w fun e w' => ∃ g, e = .returned (.tuple #[.agg #[.int .i64 (V : Int), .int .i64 (U : Int), .slice (some ⟨g, 0, none⟩) (U * stride V) (U * stride V)], .int .i64 0]) ∧ RowAt w' g (U * stride V) V U (cropPix W H P x y) ∧ Fr (fun _ => False) w w' ∧ w.heap.size ≤ g := by
  obtain ⟨f1, f2, f3⟩ := size_facts h1 h2 h3
  obtain ⟨l1, l2, l3⟩ := size_facts k1 k2 k3
  have HSN : Hid (∀ w', Fr (fun _ => False) w w' → Seen w' v (render W H P)) := fun w' f => hv.kept f
  have HB : Hid (1 ≤ W ∧ 1 ≤ H ∧ W * H ≤ 1048576) := ⟨h1, h2, h3⟩
  have HBO : Hid (1 ≤ V ∧ 1 ≤ U ∧ V * U ≤ 1048576) := ⟨k1, k2, k3⟩
  have HBB : Hid (V ≤ 1048576 ∧ U ≤ 1048576) := ⟨l1, l2⟩
  have HZ : Hid (∀ w' : World, Calls Tryd.prog 50 #[.int .i64 V, .int .i64 U] w' fun e w'' => e = .returned (.bool true) ∧ w'' = w') := fun w' => by
    have := zSize_any V U w' (by omega) (by omega)
    have e : sizeOK V U = true := by
      unfold sizeOK
      have : ((V * U : Nat) : Int) ≤ 1048576 := by omega
      rw [decide_eq_true ⟨by omega, by omega, by push_cast at this; exact this⟩]
    rwa [e] at this
  have HS1 : Hid (∀ w' : World, Calls Tryd.prog 37 #[.int .i64 x, .int .i64 (V : Int), .int .i64 (W : Int)] w' fun e w'' => (∃ a c : Int, e = .returned (.tuple #[.int .i64 a, .int .i64 c]) ∧ SpanOK x V W a c) ∧ w'' = w') := fun w' => span_any x V W w' b1 (by omega) f1
  have HS2 : Hid (∀ w' : World, Calls Tryd.prog 37 #[.int .i64 y, .int .i64 (U : Int), .int .i64 (H : Int)] w' fun e w'' => (∃ a c : Int, e = .returned (.tuple #[.int .i64 a, .int .i64 c]) ∧ SpanOK y U H a c) ∧ w'' = w') := fun w' => span_any y U H w' b2 (by omega) f2
  obtain ⟨ao, cap, rfl, _, _⟩ := hv
  generalize (render W H P).length = n at *
  obtain ⟨s0, HS0⟩ : ∃ s0, Hid (w.heap.size = s0) := ⟨_, rfl⟩
  have HA : Hid (Fr (fun _ => False) w ((w.alloc (.cells #[.int .i64 (W : Int), .int .i64 (H : Int), .slice ao n cap] 39)).alloc (.cells #[.int .i64 0, .int .i64 0, .slice none 0 0] 39))) := ((Fr.refl _ _).alloc _).alloc _
  have HC : Hid (∀ w', Fr (fun _ => False) ((w.alloc (.cells #[.int .i64 (W : Int), .int .i64 (H : Int), .slice ao n cap] 39)).alloc (.cells #[.int .i64 0, .int .i64 0, .slice none 0 0] 39)) w' → (w'.cell? ⟨w.heap.size, 0, none⟩ = some (.int .i64 W) ∧ w'.cell? ⟨w.heap.size, 1, none⟩ = some (.int .i64 H) ∧ w'.cell? ⟨w.heap.size, 2, none⟩ = some (.slice ao n cap)) ∧ w'.heap[w.heap.size + 1]? = some (.cells #[.int .i64 0, .int .i64 0, .slice none 0 0] 39 (0, 0))) := fun w' hf => by
    have e1 : ((w.alloc (.cells #[.int .i64 (W : Int), .int .i64 (H : Int), .slice ao n cap] 39)).alloc (.cells #[.int .i64 0, .int .i64 0, .slice none 0 0] 39)).heap[w.heap.size]? = some (.cells #[.int .i64 (W : Int), .int .i64 (H : Int), .slice ao n cap] 39 (0, 0)) := by
      rw [((Fr.refl (fun _ => False) (w.alloc (.cells #[.int .i64 (W : Int), .int .i64 (H : Int), .slice ao n cap] 39))).alloc _).block _ (by simp) (fun h => h)]; exact heap_alloc_new _ _
    have e2 : ((w.alloc (.cells #[.int .i64 (W : Int), .int .i64 (H : Int), .slice ao n cap] 39)).alloc (.cells #[.int .i64 0, .int .i64 0, .slice none 0 0] 39)).heap[w.heap.size + 1]? = some (.cells #[.int .i64 0, .int .i64 0, .slice none 0 0] 39 (0, 0)) := by
      have := heap_alloc_new (w.alloc (.cells #[.int .i64 (W : Int), .int .i64 (H : Int), .slice ao n cap] 39)) (.cells #[.int .i64 0, .int .i64 0, .slice none 0 0] 39)
      rwa [World.size_alloc] at this
    obtain ⟨a0, a1, a2, _⟩ := cell_of_three ((hf.block _ (lt_of_block e1) (fun h => h)).trans e1)
    exact ⟨⟨a0, a1, a2⟩, (hf.block _ (lt_of_block e2) (fun h => h)).trans e2⟩
  clear h1 h2 h3 f3 k1 k2 k3 b1 b2 l3
  go_enter Tryd.func52, Tryd.ntmps52
  go_wp2_with fail
  generalize (w.alloc (.cells #[.int .i64 (W : Int), .int .i64 (H : Int), .slice ao n cap] 39)).alloc (.cells #[.int .i64 0, .int .i64 0, .slice none 0 0] 39) = w0 at *
  refine (HZ.out _).mono ?_
  rintro e w1 ⟨rfl, rfl⟩
  go_wp2_with fail
  refine (zwhite_any V U _ HBO.out.1 HBO.out.2.1 HBO.out.2.2).mono ?_
  rintro e w2 ⟨g, rfl, hr2, hf2, hg2⟩
  have HR2 : Hid (RowAt w2 g (U * stride V) V U (fun _ _ => false)) := hr2
  have HF2 : Hid (Fr (fun _ => False) w1 w2) := hf2
  have HG2 : Hid (w1.heap.size ≤ g ∧ g < w2.heap.size) := ⟨hg2, hr2.lt⟩
  clear hr2 hf2 hg2
  rw [HS0.out] at HC
  rw [HS0.out]
  obtain ⟨N, HN⟩ : ∃ N, Hid (U * stride V = N) := ⟨_, rfl⟩
  rw [HN.out] at HR2
  rw [HN.out]
  obtain ⟨w3, hw3⟩ : ∃ w3, w3 = w2.alloc (.cells #[.int .i64 V, .int .i64 U, .slice (some ⟨g, 0, none⟩) N N] 39) := ⟨_, rfl⟩
  have HR3 : Hid (RowAt w3 g N V U (fun _ _ => false)) := by rw [hw3]; exact HR2.out.kept ((Fr.refl (fun _ => False) _).alloc _) (fun h => h)
  have HF3 : Hid (Fr (fun _ => False) w1 w3) := by rw [hw3]; exact HF2.out.alloc _
  have HFA : Hid (∀ w', Fr (fun k => k = g) w3 w' → Fr (fun _ => False) w1 w') := fun w' f => HF3.out.trans f (fun i hi e => by have := HG2.out; omega)
  have HFW : Hid (∀ w', Fr (fun k => k = g) w3 w' → Fr (fun _ => False) w w') := fun w' f => HA.out.trans (HFA.out w' f) (fun _ _ h => h)
  obtain ⟨tb, HTB⟩ : ∃ tb, Hid (w2.heap.size = tb) := ⟨_, rfl⟩
  have HK : Hid (∀ w', Fr (fun k => k = g) w3 w' → w'.cell? ⟨s0, 0, none⟩ = some (.int .i64 W) ∧ w'.cell? ⟨s0, 1, none⟩ = some (.int .i64 H) ∧ w'.cell? ⟨s0, 2, none⟩ = some (.slice ao n cap) ∧ w'.cell? ⟨tb, 0, none⟩ = some (.int .i64 V) ∧ w'.cell? ⟨tb, 1, none⟩ = some (.int .i64 U) ∧ w'.cell? ⟨tb, 2, none⟩ = some (.slice (some ⟨g, 0, none⟩) N N)) := fun w' f => by
    have hg := HG2.out
    have hsz : w3.heap.size = w2.heap.size + 1 := by rw [hw3, World.size_alloc]
    have hb : w3.heap[w2.heap.size]? = some (.cells #[.int .i64 V, .int .i64 U, .slice (some ⟨g, 0, none⟩) N N] 39 (0, 0)) := by rw [hw3]; exact heap_alloc_new _ _
    obtain ⟨z0, z1, z2, _⟩ := cell_of_three ((f.block _ (by omega) (by omega)).trans hb)
    rw [HTB.out] at z0 z1 z2
    obtain ⟨⟨a0, a1, a2⟩, _⟩ := HC.out w' (HFA.out w' f)
    exact ⟨a0, a1, a2, z0, z1, z2⟩
  have HSZ : Hid (w.heap.size ≤ g ∧ w.heap.size + 1 < g ∧ g < w3.heap.size) := by
    have h5 := lt_of_block (HC.out w1 (Fr.refl _ _)).2
    have hg := HG2.out
    have h7 := HS0.out
    refine ⟨?_, ?_, HR3.out.lt⟩ <;> omega
  obtain ⟨c0, c1, c2, c3, c4, c5⟩ := HK.out _ (Fr.refl _ _)
  rw [hw3] at c0 c1 c2
  go_wp2_with fail
  rw [← hw3] at c0 c1 c2
  rw [← hw3, HTB.out]
  clear hw3 HR2 HF2
  refine (HS1.out _).mono ?_
  rintro e w3' ⟨⟨A1, C1, rfl, s1⟩, rfl⟩
  have HP1 : Hid (SpanOK x V W A1 C1) := s1
  clear s1
  go_wp2_with fail
  refine (HS2.out _).mono ?_
  rintro e w3'' ⟨⟨A2, C2, rfl, s2⟩, rfl⟩
  have HP2 : Hid (SpanOK y U H A2 C2) := s2
  clear s2 c0 c1 c2 c3 c4 c5
  go_wp2_with fail
  go_loopw [17, 18] (fun j _ wr => ∃ J : Int, A2 ≤ J ∧ (J ≤ C2 ∨ J = A2) ∧ j = .int .i64 J ∧ RowAt wr g N V U (setG (cropPix W H P x y) 0 0 A1 C1 A2 J A1 (fun _ _ => false)) ∧ Fr (fun k => k = g) w3'' wr) (fun j _ _ => (C2 - intOf j).toNat)
  case atStart => exact ⟨A2, Int.le_refl _, Or.inr rfl, rfl, by rw [setG_first]; exact HR3.out, Fr.refl _ _⟩
  case round =>
    obtain ⟨J, hJ1, hJ2, rfl, hrow, hfr⟩ := hrel
    have HJ : Hid (A2 ≤ J ∧ (J ≤ C2 ∨ J = A2)) := ⟨hJ1, hJ2⟩
    have HRo : Hid (RowAt wr g N V U (setG (cropPix W H P x y) 0 0 A1 C1 A2 J A1 (fun _ _ => false))) := hrow
    have HFr : Hid (Fr (fun k => k = g) w3'' wr) := hfr
    clear hrow hfr hJ1 hJ2
    by_cases hJH : J < C2
    · have hdJ : decide (J < C2) = true := decide_eq_true hJH
      obtain ⟨j0, rfl⟩ : ∃ j0 : Nat, J = (j0 : Int) := ⟨J.toNat, by have h1 := HP2.out.lo; have h2 := HJ.out; omega⟩
      have HOW2 : Hid (0 ≤ y + (j0 : Int) ∧ y + (j0 : Int) < H ∧ A2 ≤ (j0 : Int) ∧ j0 < U) := by
        have h := HP2.out.own
        have h2 := HJ.out
        have h3 := HP2.out.hi
        show _ ∧ _
        omega
      go_wp2_with fail
      go_loopw [18] (fun i wr => ∃ I : Int, A1 ≤ I ∧ (I ≤ C1 ∨ I = A1) ∧ i = .int .i64 I ∧ RowAt wr g N V U (setG (cropPix W H P x y) 0 0 A1 C1 A2 (j0 : Int) I (fun _ _ => false)) ∧ Fr (fun k => k = g) w3'' wr) (fun i _ => (C1 - intOf i).toNat)
      case atStart => exact ⟨A1, Int.le_refl _, Or.inr rfl, rfl, HRo.out, HFr.out⟩
      case round =>
        obtain ⟨I, hI1, hI2, rfl, hrow, hfr⟩ := hrel
        have HI : Hid (A1 ≤ I ∧ (I ≤ C1 ∨ I = A1)) := ⟨hI1, hI2⟩
        have HRi : Hid (RowAt wr g N V U (setG (cropPix W H P x y) 0 0 A1 C1 A2 (j0 : Int) I (fun _ _ => false))) := hrow
        have HFi : Hid (Fr (fun k => k = g) w3'' wr) := hfr
        obtain ⟨c0, c1, c2, c3, c4, c5⟩ := HK.out _ hfr
        clear hrow hfr hI1 hI2
        by_cases hIW : I < C1
        · have hdI : decide (I < C1) = true := decide_eq_true hIW
          obtain ⟨i0, rfl⟩ : ∃ i0 : Nat, I = (i0 : Int) := ⟨I.toNat, by have h1 := HP1.out.lo; have h2 := HI.out; omega⟩
          have HOW1 : Hid (0 ≤ x + (i0 : Int) ∧ x + (i0 : Int) < W ∧ A1 ≤ (i0 : Int) ∧ i0 < V) := by
            have h := HP1.out.own
            have h2 := HI.out
            have h3 := HP1.out.hi
            show _ ∧ _
            omega
          obtain ⟨a0, ha0⟩ : ∃ a0 : Nat, x + (i0 : Int) = (a0 : Int) := ⟨(x + i0).toNat, by have := HOW1.out; omega⟩
          obtain ⟨b0, hb0'⟩ : ∃ b0 : Nat, y + (j0 : Int) = (b0 : Int) := ⟨(y + j0).toNat, by have := HOW2.out; omega⟩
          have hw1 : IntKind.i64.wrap (x + (i0 : Int)) = (a0 : Int) := by have := HOW1.out; rw [IntKind.wrap_i64]; omega
          have hw2 : IntKind.i64.wrap (y + (j0 : Int)) = (b0 : Int) := by have := HOW2.out; rw [IntKind.wrap_i64]; omega
          have hw3 : IntKind.i64.wrap ((i0 : Int) + 1) = (i0 : Int) + 1 := by have h3 := HOW1.out; have h4 := HBB.out; rw [IntKind.wrap_i64]; omega
          have HA0 : Hid (x + (i0 : Int) = (a0 : Int)) := ha0
          have HB0 : Hid (y + (j0 : Int) = (b0 : Int)) := hb0'
          clear ha0 hb0'
          have HG1 : Hid (∀ w', Fr (fun _ => False) wr w' → Calls Tryd.prog 21 #[.agg #[.int .i64 (W : Int), .int .i64 (H : Int), .slice ao n cap], .int .i64 (a0 : Int), .int .i64 (b0 : Int)] w' fun e w'' => e = .returned (.int .i64 ((cropPix W H P x y i0 j0).toNat : Nat)) ∧ Fr (fun _ => False) w' w'') := fun w' hf => by
            have h1 := HB.out
            have h2 := HSN.out w' (HFW.out w' (HFi.out.trans hf (fun _ _ h => h.elim)))
            have h4 := zget_any W H _ P (a0 : Int) (b0 : Int) w' h2 h1.1 h1.2.1 h1.2.2
            unfold cropPix
            rw [HA0.out, HB0.out]
            exact h4
          have HPu : Hid (∀ w', Fr (fun _ => False) wr w' → Calls Tryd.prog 35 #[.agg #[.int .i64 (V : Int), .int .i64 (U : Int), .slice (some ⟨g, 0, none⟩) N N], .int .i64 (i0 : Int), .int .i64 (j0 : Int), .int .i64 (((cropPix W H P x y i0 j0).toNat : Nat) : Int)] w' fun e w'' => e = .returned (.tuple #[]) ∧ RowAt w'' g N V U (setG (cropPix W H P x y) 0 0 A1 C1 A2 (j0 : Int) ((i0 : Int) + 1) (fun _ _ => false)) ∧ Fr (fun k => k = g) w' w'') := fun w' hf => by
            have h1 := HBO.out
            have o1 := HOW1.out
            have o2 := HOW2.out
            rw [setG_next (A0 := i0) (E0 := j0) o1.2.2.1 hIW o2.2.2.1 (by omega) (by omega)]
            have h4 := zput_any V U g N (setG (cropPix W H P x y) 0 0 A1 C1 A2 (j0 : Int) (i0 : Int) (fun _ _ => false)) i0 j0 (cropPix W H P x y i0 j0) w' (HRi.out.kept hf (fun h => h)) h1.1 h1.2.1 h1.2.2 o1.2.2.2 o2.2.2.2
            rw [HN.out] at h4
            exact h4
          generalize (cropPix W H P x y i0 j0).toNat = pn at *
          have HCI : Hid (∀ w', Fr (fun k => k = g) wr w' → w'.cell? ⟨s0, 0, none⟩ = some (.int .i64 W) ∧ w'.cell? ⟨s0, 1, none⟩ = some (.int .i64 H) ∧ w'.cell? ⟨s0, 2, none⟩ = some (.slice ao n cap) ∧ w'.cell? ⟨tb, 0, none⟩ = some (.int .i64 V) ∧ w'.cell? ⟨tb, 1, none⟩ = some (.int .i64 U) ∧ w'.cell? ⟨tb, 2, none⟩ = some (.slice (some ⟨g, 0, none⟩) N N)) := fun w' hf => HK.out _ (HFi.out.trans hf (fun _ _ h => h))
          go_wp2_with fail
          clear hdJ hdI
          go_region_held3 (fun w' => w'.cell? ⟨s0, 0, none⟩ = some (.int .i64 W) ∧ w'.cell? ⟨s0, 1, none⟩ = some (.int .i64 H) ∧ w'.cell? ⟨s0, 2, none⟩ = some (.slice ao n cap) ∧ w'.cell? ⟨tb, 0, none⟩ = some (.int .i64 V) ∧ w'.cell? ⟨tb, 1, none⟩ = some (.int .i64 U) ∧ w'.cell? ⟨tb, 2, none⟩ = some (.slice (some ⟨g, 0, none⟩) N N)) (exact HCI.out _ (by repeat (first | with_reducible exact Fr.refl _ _ | with_reducible refine Fr.drew ?_ | with_reducible refine Fr.trans ?_ hf9 (fun _ _ hh => hh) | with_reducible refine Fr.trans ?_ hf7 (fun _ _ hh => hh.elim)))) (first | (go_at_call 21; refine (HG1.out _ (by repeat (first | with_reducible exact Fr.refl _ _ | with_reducible refine Fr.drew ?_))).mono ?_; rintro e w7 ⟨rfl, hf7⟩) | (go_at_call 35; refine (HPu.out _ (by repeat (first | with_reducible exact Fr.refl _ _ | with_reducible refine Fr.drew ?_ | with_reducible refine Fr.trans ?_ hf7 (fun _ _ hh => hh)))).mono ?_; rintro e w9 ⟨rfl, hr9, hf9⟩))
          all_goals go_wp2_with fail
          all_goals go_roundw
          all_goals first
            | (refine ⟨(i0 : Int) + 1, by have := HOW1.out; omega, Or.inl (by omega), rfl, hr9, HFi.out.trans ?_ (fun _ _ hh => hh)⟩; repeat (first | with_reducible exact Fr.refl _ _ | with_reducible refine Fr.drew ?_ | with_reducible refine Fr.trans ?_ hf9 (fun _ _ hh => hh) | with_reducible refine Fr.trans ?_ hf7 (fun _ _ hh => hh.elim)))
            | (simp [intOf]; omega)
        · have hdI : decide (I < C1) = false := decide_eq_false hIW
          have hw3 : IntKind.i64.wrap ((j0 : Int) + 1) = (j0 : Int) + 1 := by have h3 := HOW2.out; have h4 := HBB.out; rw [IntKind.wrap_i64]; omega
          clear c0 c1 c2 c3 c4 c5
          go_wp2_with fail
          go_roundw
          case rel => exact ⟨(j0 : Int) + 1, by have := HOW2.out; omega, Or.inl (by omega), rfl, by rw [← setG_row (i := I) (by omega)]; exact HRi.out, HFi.out⟩
          case measure => simp [intOf]; omega
    · have hdJ : decide (J < C2) = false := decide_eq_false hJH
      have hbk := (HC.out _ (HFA.out _ HFr.out)).2
      obtain ⟨c0, c1, c2, c3, c4, c5⟩ := HK.out _ HFr.out
      obtain ⟨z0, z1, z2, zf⟩ := cell_of_three hbk
      have y0 := zf 0
      have y1 := zf 1
      have y2 := zf 2
      have hb5 := three_all (x' := .int .i64 (V : Int)) (y' := .int .i64 (U : Int)) (z' := .slice (some ⟨g, 0, none⟩) N N) hbk
      have HF5 : Hid (Fr (fun _ => False) w (((wr.setCell ⟨s0 + 1, 0, none⟩ (.int .i64 (V : Int))).setCell ⟨s0 + 1, 1, none⟩ (.int .i64 (U : Int))).setCell ⟨s0 + 1, 2, none⟩ (.slice (some ⟨g, 0, none⟩) N N))) := Fr.own3 (HFW.out _ HFr.out) _ (by have := HS0.out; omega) _ _ _
      have HX5 : Hid (RowAt (((wr.setCell ⟨s0 + 1, 0, none⟩ (.int .i64 (V : Int))).setCell ⟨s0 + 1, 1, none⟩ (.int .i64 (U : Int))).setCell ⟨s0 + 1, 2, none⟩ (.slice (some ⟨g, 0, none⟩) N N)) g N V U (cropPix W H P x y)) := (HRo.out.pixO (crop_setG P HP1.out HP2.out (by omega))).kept ((((Fr.refl (fun k => k = s0 + 1) _).setCell (p := ⟨s0 + 1, 0, none⟩) (fun _ => rfl) _).setCell (p := ⟨s0 + 1, 1, none⟩) (fun _ => rfl) _).setCell (p := ⟨s0 + 1, 2, none⟩) (fun _ => rfl) _) (fun e => by have := HSZ.out; have := HS0.out; omega)
      clear zf hbk
      go_wp2_with fail
      generalize ((wr.setCell ⟨s0 + 1, 0, none⟩ (.int .i64 (V : Int))).setCell ⟨s0 + 1, 1, none⟩ (.int .i64 (U : Int))).setCell ⟨s0 + 1, 2, none⟩ (.slice (some ⟨g, 0, none⟩) N N) = w5 at hb5 HF5 HX5 ⊢
      obtain ⟨m0, m1, m2, _⟩ := cell_of_three hb5
      (try simp only [Exit.inBlock, Exit.then])
      refine bodyPost_ret (v := .tuple #[.agg #[.int .i64 (V : Int), .int .i64 (U : Int), .slice (some ⟨g, 0, none⟩) N N], .int .i64 0]) (by simp [results, Tryd.results52, go_sem, m0, m1, m2]) rfl ?_
      exact ⟨g, by rw [HN.out], by rw [HN.out]; exact HX5.out, HF5.out, by have := HSZ.out; have := HS0.out; omega⟩
end Go.Proofs.YtflhbmapikdmhaaDoor
