/- 'BitmapExact' returns true. -/
import Derived.Test.YtflhbmapikdmhaaDoorYk
import Derived.Deep.CutRange
import Derived.Deep.CutBlock
import Derived.Deep.RegionHeld3
import Derived.Deep.Light
namespace Go.Proofs.YtflhbmapikdmhaaDoor
set_option maxRecDepth 100000
open Go.RowKit

set_option linter.unusedSimpArgs false in
set_option maxHeartbeats 400000000 in
theorem exact_any (ao : Option Addr) (n cap : Nat) (A : Nat → Bp) (bo : Option Addr) (nb cb : Nat) (O : Nat → Nat → Int) (w : World) (hB : BpsAt w ao n A) (hO : OpsAt w bo nb O) (hT : Tab w) (h0 : 0 < w.heap.size) :
    Calls Tryd.prog 3 #[.agg #[.slice ao n cap, .slice bo nb cb]] w fun e w' => e = .returned (.bool true) ∧ Fr (fun _ => False) w w' := by
  obtain ⟨s0, HS0⟩ : ∃ s0, Hid (w.heap.size = s0) := ⟨_, rfl⟩
  have HF1 : Hid (Fr (fun _ => False) w (w.alloc (.cells #[.slice ao n cap, .slice bo nb cb] 25))) := (Fr.refl _ _).alloc _
  have HBX : Hid (∀ w', Fr (fun _ => False) (w.alloc (.cells #[.slice ao n cap, .slice bo nb cb] 25)) w' → w'.cell? ⟨w.heap.size, 0, none⟩ = some (.slice ao n cap) ∧ w'.cell? ⟨w.heap.size, 1, none⟩ = some (.slice bo nb cb)) := fun w' f => by
    have e1 : w'.heap[w.heap.size]? = some (.cells #[.slice ao n cap, .slice bo nb cb] 25 (0, 0)) := (f.block _ (by simp) (fun h => h)).trans (heap_alloc_new _ _)
    refine ⟨?_, ?_⟩ <;> (unfold World.cell?; simp only [e1]; rfl)
  have HTB : Hid (∀ w', Fr (fun _ => False) (w.alloc (.cells #[.slice ao n cap, .slice bo nb cb] 25)) w' → Tab w' ∧ 0 < w'.heap.size) := fun w' f => by
    have f' := HF1.out.trans f (fun _ _ h => h)
    have := f'.size
    exact ⟨hT.kept f' h0 (fun h => h), by omega⟩
  have HOP : Hid (∀ w', Fr (fun _ => False) (w.alloc (.cells #[.slice ao n cap, .slice bo nb cb] 25)) w' → OpsAt w' bo nb O) := fun w' f => hO.kept (HF1.out.trans f (fun _ _ h => h))
  have HB1 : Hid (BpsAt (w.alloc (.cells #[.slice ao n cap, .slice bo nb cb] 25)) ao n A) := hB.kept HF1.out
  have hnb := hO.1
  clear hB hO hT h0
  obtain ⟨c0, c1⟩ := HBX.out _ (Fr.refl _ _)
  go_enter Tryd.func3, Tryd.ntmps3
  go_wp2_with fail
  generalize (w.alloc (.cells #[.slice ao n cap, .slice bo nb cb] 25)) = w1 at *
  rw [HS0.out] at HBX c0 c1
  rw [HS0.out]
  refine (maps_any ao n cap A w1 HB1.out).mono ?_
  rintro e w2 ⟨m, vv, uu, M0, R0, rfl, hm4, hbo, hag, hfs, hfr⟩
  obtain ⟨va, vc, rfl⟩ := own_slice hbo.l.row
  obtain ⟨ua, uc, rfl⟩ := own_slice hbo.r.row
  have HB2 : Hid (Bo w2 (.slice va m vc) (.slice ua m uc) m M0 R0) := hbo
  have HAG2 : Hid (Ag m M0 R0) := hag
  have HFS2 : Hid (Fs w1 (.slice va m vc) (.slice ua m uc) m M0 R0) := hfs
  have HF2 : Hid (Fr (fun _ => False) w1 w2) := hfr
  clear hbo hag hfs hfr c0 c1 HB1
  go_wp2_with fail
  go_loopg [6] nb (fun q i wr => ∃ (k : Nat) (M : Nat → Mp) (R : Nat → Rw), k + q = nb ∧ i = .int .i64 (k : Int) ∧ Bo wr (.slice va m vc) (.slice ua m uc) m M R ∧ Ag m M R ∧ Fs w1 (.slice va m vc) (.slice ua m uc) m M R ∧ Fr (fun _ => False) w1 wr)
  case atStart => exact ⟨0, M0, R0, by omega, rfl, HB2.out, HAG2.out, HFS2.out, HF2.out⟩
  case round =>
    clear HB2 HAG2 HFS2 HF2
    obtain ⟨k, M, R, hkq, rfl, hbo, hag, hfs, hfr⟩ := hrel
    have HBW : Hid (Bo wr (.slice va m vc) (.slice ua m uc) m M R) := hbo
    have HAG : Hid (Ag m M R) := hag
    have HFS0 : Hid (Fs w1 (.slice va m vc) (.slice ua m uc) m M R) := hfs
    have HFr : Hid (Fr (fun _ => False) w1 wr) := hfr
    clear hbo hag hfs hfr
    obtain ⟨c0, c1⟩ := HBX.out wr HFr.out
    have HEND : Hid (Calls Tryd.prog 24 #[] wr fun e w' => e = .returned (.bool true) ∧ Fr (fun _ => False) w w') := by
      refine (wakes_any wr).mono ?_
      rintro e w' ⟨he, hf⟩
      exact ⟨he, (HF1.out.trans HFr.out (fun _ _ h => h)).trans hf (fun _ _ h => h)⟩
    by_cases h1 : k < nb
    rotate_left
    · have d1 : decide (k < nb) = false := decide_eq_false h1
      go_wp2_with fail
      refine HEND.out.mono ?_
      rintro e w3 ⟨rfl, hf3⟩
      have HF3 : Hid (Fr (fun _ => False) w w3) := hf3
      clear hf3
      go_wp2_with fail
      go_ret
      exact ⟨rfl, HF3.out⟩
    have d1 : decide (k < nb) = true := decide_eq_true h1
    by_cases h2 : k < 30
    rotate_left
    · have d2 : decide (k < 30) = false := decide_eq_false h2
      go_wp2_with fail
      refine HEND.out.mono ?_
      rintro e w3 ⟨rfl, hf3⟩
      have HF3 : Hid (Fr (fun _ => False) w w3) := hf3
      clear hf3
      go_wp2_with fail
      go_ret
      exact ⟨rfl, HF3.out⟩
    have d2 : decide (k < 30) = true := decide_eq_true h2
    by_cases h3 : 0 < m
    rotate_left
    · have d3 : decide (0 < m) = false := decide_eq_false h3
      go_wp2_with fail
      refine HEND.out.mono ?_
      rintro e w3 ⟨rfl, hf3⟩
      have HF3 : Hid (Fr (fun _ => False) w w3) := hf3
      clear hf3
      go_wp2_with fail
      go_ret
      exact ⟨rfl, HF3.out⟩
    have d3 : decide (0 < m) = true := decide_eq_true h3
    clear HEND
    obtain ⟨lb, lc, e1, -⟩ := row_form HBW.out.l.row h3
    obtain ⟨rb, rc, e2, -⟩ := row_form HBW.out.r.row h3
    cases e1
    cases e2
    obtain ⟨bb, off, hbo, hoc0⟩ := (HOP.out wr HFr.out).2 (by omega)
    subst hbo
    have hoc := hoc0 k h1
    clear hoc0
    obtain ⟨o0, i0⟩ := hoc 0 (by omega)
    obtain ⟨o1, i1⟩ := hoc 1 (by omega)
    obtain ⟨o2, i2⟩ := hoc 2 (by omega)
    obtain ⟨o3, i3⟩ := hoc 3 (by omega)
    obtain ⟨o4, i4⟩ := hoc 4 (by omega)
    obtain ⟨o5, i5⟩ := hoc 5 (by omega)
    obtain ⟨o6, i6⟩ := hoc 6 (by omega)
    obtain ⟨o7, i7⟩ := hoc 7 (by omega)
    obtain ⟨o8, i8⟩ := hoc 8 (by omega)
    obtain ⟨o9, i9⟩ := hoc 9 (by omega)
    obtain ⟨o10, i10⟩ := hoc 10 (by omega)
    clear hoc
    rw [Nat.add_zero] at o0
    obtain ⟨d, hd⟩ : ∃ x, x = O k 0 := ⟨_, rfl⟩
    rw [← hd] at o0 i0
    clear hd
    obtain ⟨F, hF⟩ : ∃ x, x = O k 1 := ⟨_, rfl⟩
    rw [← hF] at o1 i1
    clear hF
    obtain ⟨T, hT⟩ : ∃ x, x = O k 2 := ⟨_, rfl⟩
    rw [← hT] at o2 i2
    clear hT
    obtain ⟨N0, hN0⟩ : ∃ x, x = O k 3 := ⟨_, rfl⟩
    rw [← hN0] at o3 i3
    clear hN0
    obtain ⟨N1, hN1⟩ : ∃ x, x = O k 4 := ⟨_, rfl⟩
    rw [← hN1] at o4 i4
    clear hN1
    obtain ⟨N2, hN2⟩ : ∃ x, x = O k 5 := ⟨_, rfl⟩
    rw [← hN2] at o5 i5
    clear hN2
    obtain ⟨N3, hN3⟩ : ∃ x, x = O k 6 := ⟨_, rfl⟩
    rw [← hN3] at o6 i6
    clear hN3
    obtain ⟨N4, hN4⟩ : ∃ x, x = O k 7 := ⟨_, rfl⟩
    rw [← hN4] at o7 i7
    clear hN4
    obtain ⟨N5, hN5⟩ : ∃ x, x = O k 8 := ⟨_, rfl⟩
    rw [← hN5] at o8 i8
    clear hN5
    obtain ⟨N6, hN6⟩ : ∃ x, x = O k 9 := ⟨_, rfl⟩
    rw [← hN6] at o9 i9
    clear hN6
    obtain ⟨N7, hN7⟩ : ∃ x, x = O k 10 := ⟨_, rfl⟩
    rw [← hN7] at o10 i10
    clear hN7
    have HNI : Hid (I64 N0 ∧ I64 N1 ∧ I64 N2 ∧ I64 N3 ∧ I64 N4 ∧ I64 N5 ∧ I64 N6 ∧ I64 N7) := ⟨i3, i4, i5, i6, i7, i8, i9, i10⟩
    have HWI : Hid (I64 F ∧ I64 T) := ⟨i1, i2⟩
    clear i0 i1 i2 i3 i4 i5 i6 i7 i8 i9 i10
    have hb7 := heap_alloc_new wr (.cells #[.int .i64 d, .int .i64 F, .int .i64 T, .int .i64 N0, .int .i64 N1, .int .i64 N2, .int .i64 N3, .int .i64 N4, .int .i64 N5, .int .i64 N6, .int .i64 N7] 31)
    obtain ⟨p0, p1, p2, p3, p4, p5, p6, p7, p8, p9, p10⟩ := cell_of_eleven hb7
    clear hb7
    go_wp2_with fail
    have HF3 : Hid (Fr (fun _ => False) wr (wr.alloc (.cells #[.int .i64 d, .int .i64 F, .int .i64 T, .int .i64 N0, .int .i64 N1, .int .i64 N2, .int .i64 N3, .int .i64 N4, .int .i64 N5, .int .i64 N6, .int .i64 N7] 31))) := (Fr.refl _ _).alloc _
    have hz3 : (wr.alloc (.cells #[.int .i64 d, .int .i64 F, .int .i64 T, .int .i64 N0, .int .i64 N1, .int .i64 N2, .int .i64 N3, .int .i64 N4, .int .i64 N5, .int .i64 N6, .int .i64 N7] 31)).heap.size = wr.heap.size + 1 := by simp
    generalize (wr.alloc (.cells #[.int .i64 d, .int .i64 F, .int .i64 T, .int .i64 N0, .int .i64 N1, .int .i64 N2, .int .i64 N3, .int .i64 N4, .int .i64 N5, .int .i64 N6, .int .i64 N7] 31)) = w3 at *
    refine (within_any F m w3 HWI.out.1 (by omega) (by omega)).mono ?_
    rintro e w3' ⟨rfl, e3⟩
    rw [e3]
    clear e3 w3'
    obtain ⟨s, hsv⟩ : ∃ s : Nat, F % (m : Int) = (s : Int) := ⟨(F % (m : Int)).toNat, by have := Int.emod_nonneg F (show (m : Int) ≠ 0 by omega); omega⟩
    have hs : s < m := by have := Int.emod_lt_of_pos F (show (0 : Int) < m by omega); omega
    rw [hsv]
    clear hsv
    go_wp2_with fail
    refine (within_any T m w3 HWI.out.2 (by omega) (by omega)).mono ?_
    rintro e w3' ⟨rfl, e3⟩
    rw [e3]
    clear e3 w3'
    obtain ⟨t, htv⟩ : ∃ t : Nat, T % (m : Int) = (t : Int) := ⟨(T % (m : Int)).toNat, by have := Int.emod_nonneg T (show (m : Int) ≠ 0 by omega); omega⟩
    have ht : t < m := by have := Int.emod_lt_of_pos T (show (0 : Int) < m by omega); omega
    rw [htv]
    clear htv HWI
    have hb10 := heap_alloc_new w3 (.cells #[.int .i64 N0, .int .i64 N1, .int .i64 N2, .int .i64 N3, .int .i64 N4, .int .i64 N5, .int .i64 N6, .int .i64 N7] 29)
    have HF4 : Hid (Fr (fun _ => False) wr (w3.alloc (.cells #[.int .i64 N0, .int .i64 N1, .int .i64 N2, .int .i64 N3, .int .i64 N4, .int .i64 N5, .int .i64 N6, .int .i64 N7] 29))) := HF3.out.alloc _
    have hp0 : (w3.alloc (.cells #[.int .i64 N0, .int .i64 N1, .int .i64 N2, .int .i64 N3, .int .i64 N4, .int .i64 N5, .int .i64 N6, .int .i64 N7] 29)).cell? ⟨wr.heap.size, 0, none⟩ = some (.int .i64 d) := seen_cellF ((Fr.refl (fun _ => False) _).alloc _) p0
    go_upto_block 2 with (fail)
    generalize (w3.alloc (.cells #[.int .i64 N0, .int .i64 N1, .int .i64 N2, .int .i64 N3, .int .i64 N4, .int .i64 N5, .int .i64 N6, .int .i64 N7] 29)) = w4 at *
    obtain ⟨B, HBB⟩ : ∃ B, Hid (wr.heap.size = B) := ⟨_, rfl⟩
    rw [hz3, HBB.out] at hb10
    (try rw [hz3])
    rw [HBB.out]
    have HNC : Hid (∀ w', Fr (fun k => w1.heap.size ≤ k ∧ k < B) w4 w' → w'.cell? ⟨B + 1, 0, none⟩ = some (.int .i64 N0) ∧ w'.cell? ⟨B + 1, 1, none⟩ = some (.int .i64 N1) ∧ w'.cell? ⟨B + 1, 2, none⟩ = some (.int .i64 N2) ∧ w'.cell? ⟨B + 1, 3, none⟩ = some (.int .i64 N3) ∧ w'.cell? ⟨B + 1, 4, none⟩ = some (.int .i64 N4) ∧ w'.cell? ⟨B + 1, 5, none⟩ = some (.int .i64 N5) ∧ w'.cell? ⟨B + 1, 6, none⟩ = some (.int .i64 N6) ∧ w'.cell? ⟨B + 1, 7, none⟩ = some (.int .i64 N7)) := fun w' f => cell_of_eight ((f.block _ (lt_of_block hb10) (by omega)).trans hb10)
    have HW4 : Hid (w1.heap.size ≤ w4.heap.size ∧ B ≤ w4.heap.size) := by
      have h1 := HFr.out.size
      have h2 := HF4.out.size
      have h3 := HBB.out
      show _ ∧ _
      omega
    have HB4 : Hid (Bo w4 (.slice (some ⟨lb, 0, none⟩) m vc) (.slice (some ⟨rb, 0, none⟩) m uc) m M R) := HBW.out.kept HF4.out
    have HFS : Hid (Fs w1 (.slice (some ⟨lb, 0, none⟩) m vc) (.slice (some ⟨rb, 0, none⟩) m uc) m M R) := HFS0.out
    have HIN : Hid (∀ j, j < m → ∀ k, (k = (M j).g ∨ k = (R j).g) → w1.heap.size ≤ k ∧ k < B) := fun j hj k hk => by
      have h1 := HBW.out.lts hj
      have h2 := HFS0.out.e j hj
      have h3 := HBB.out
      rcases hk with rfl | rfl <;> omega
    have HLB : Hid ((w1.heap.size ≤ lb ∧ lb < B) ∧ (w1.heap.size ≤ rb ∧ rb < B)) := by
      have h1 := HBW.out.lbs
      have h2 := HFS0.out.v lb rfl
      have h3 := HFS0.out.u rb rfl
      have h4 := HBB.out
      exact ⟨⟨h2, by omega⟩, h3, by omega⟩
    have HF04 : Hid (Fr (fun _ => False) w1 w4) := HFr.out.trans HF4.out (fun _ _ h => h)
    clear hb10 hz3 hp0 c0 c1 o0 o1 o2 o3 o4 o5 o6 o7 o8 o9 o10 p0 p1 p2 p3 p4 p5 p6 p7 p8 p9 p10 HF3 HFS0 HBW d1 d2 d3
    go_cut [11, 12] from 57 to 219 (fun e f wc => ∃ (er : Int) (M : Nat → Mp) (R : Nat → Rw), e = .int .i64 er ∧ f = .int .i64 er ∧ Bo wc (.slice (some ⟨lb, 0, none⟩) m vc) (.slice (some ⟨rb, 0, none⟩) m uc) m M R ∧ Ag m M R ∧ Fs w1 (.slice (some ⟨lb, 0, none⟩) m vc) (.slice (some ⟨rb, 0, none⟩) m uc) m M R ∧ Fr (fun k => w1.heap.size ≤ k ∧ k < B) w4 wc)
    case first =>
      by_cases hd0 : d = 0
      · have hdb : (d == 0) = true := by simp [hd0]
        clear hd0
        as_aux_lemma =>
          have hw := HB4.out.l.at_ t ht
          obtain ⟨er, P', hp, hr⟩ := set_both (M t).W (M t).H (M t).P N0 N1 N2 hw.wpos hw.hpos hw.area 
          have HP : Hid (PDoes (M t).W (M t).H (M t).P P' 6 [.int .i64 N0, .int .i64 N1, .int .i64 N2] er) := hp
          have HRD : Hid (RDoes (R t).W (R t).H (R t).P P' 7 [.int .i64 N0, .int .i64 N1, .int .i64 N2] er) := by
            obtain ⟨e1, e2, e3⟩ := HAG.out t ht
            rw [e1, e2, e3] at hr
            exact hr
          clear hw hp hr
          have HC1 : Hid (∀ w', Fr (fun _ => False) w4 w' → Calls Tryd.prog 6 #[.pointer (some ⟨(M t).b, 0, none⟩), .int .i64 N0, .int .i64 N1, .int .i64 N2] w' fun e w'' => e = .returned (.int .i64 er) ∧ MapAt w'' (M t).b (M t).g (M t).cap (M t).W (M t).H P' ∧ Fr (fun k => k = (M t).g) w' w'') := fun w' f => HP.out w' _ _ _ ((HB4.out.kept f).l.at_ t ht)
          have HK1 : Hid (∀ w', Fr (fun k => k = (M t).g) w4 w' → w'.cell? ⟨lb, t, none⟩ = some (.pointer (some ⟨(M t).b, 0, none⟩)) ∧ w'.cell? ⟨B + 1, 0, none⟩ = some (.int .i64 N0) ∧ w'.cell? ⟨B + 1, 1, none⟩ = some (.int .i64 N1) ∧ w'.cell? ⟨B + 1, 2, none⟩ = some (.int .i64 N2)) := fun w' f => by
            obtain ⟨l1, l2, l3, l4⟩ := HB4.out.lbs
            have f' := f.mono (T := (fun k => w1.heap.size ≤ k ∧ k < B)) (fun k _ e => HIN.out t ht k (Or.inl e))
            have q := HNC.out w' f'
            exact ⟨HB4.out.ptr f (l4 t ht).1 ht, q.1, q.2.1, q.2.2.1⟩
          obtain ⟨k0, k1, k2, k3⟩ := HK1.out w4 (Fr.refl _ _)
          go_wp2_with fail
          go_region_held3 (fun w' => w'.cell? ⟨lb, t, none⟩ = some (.pointer (some ⟨(M t).b, 0, none⟩)) ∧ w'.cell? ⟨B + 1, 0, none⟩ = some (.int .i64 N0) ∧ w'.cell? ⟨B + 1, 1, none⟩ = some (.int .i64 N1) ∧ w'.cell? ⟨B + 1, 2, none⟩ = some (.int .i64 N2)) (exact HK1.out _ (by repeat (first | with_reducible exact Fr.refl _ _ | with_reducible refine Fr.drew ?_ | with_reducible refine Fr.trans ?_ hf6 (fun _ _ hh => hh)))) (first | (go_at_call 6; refine (HC1.out _ (by repeat (first | with_reducible exact Fr.refl _ _ | with_reducible refine Fr.drew ?_))).mono ?_; rintro e w6 ⟨rfl, hm6, hf6⟩))
          have HF6 : Hid (Fr (fun k => k = (M t).g) w4 w6) := by
            refine Fr.trans ?_ hf6 (fun _ _ hh => hh)
            repeat (first | with_reducible exact Fr.refl _ _ | with_reducible refine Fr.drew ?_)
          have HB6 : Hid (Bo w6 (.slice (some ⟨lb, 0, none⟩) m vc) (.slice (some ⟨rb, 0, none⟩) m uc) m (updF M t { M t with P := P' }) R) := HB4.out.map ht HF6.out hm6
          clear hm6 hf6 HC1 HK1 HP k0 k1 k2 k3
          have HC2 : Hid (∀ w', Fr (fun _ => False) w6 w' → Calls Tryd.prog 7 #[.agg #[.int .i64 ((R t).W : Int), .int .i64 ((R t).H : Int), .slice (some ⟨(R t).g, 0, none⟩) ((R t).H * stride (R t).W) (R t).cap], .int .i64 N0, .int .i64 N1, .int .i64 N2] w' fun e w'' => e = .returned (.int .i64 er) ∧ RowAt w'' (R t).g (R t).cap (R t).W (R t).H P' ∧ Fr (fun k => k = (R t).g) w' w'') := fun w' f => HRD.out w' _ _ ((HB6.out.kept f).r.at_ t ht)
          have HS6 : Hid (Fr (fun k => w1.heap.size ≤ k ∧ k < B) w4 w6) := HF6.out.mono (fun k _ e => HIN.out t ht k (Or.inl e))
          have HK2 : Hid (∀ w', Fr (fun k => k = (R t).g) w6 w' → (w'.cell? ⟨rb, t * 3, none⟩ = some (.int .i64 ((R t).W : Int)) ∧ w'.cell? ⟨rb, t * 3 + 1, none⟩ = some (.int .i64 ((R t).H : Int)) ∧ w'.cell? ⟨rb, t * 3 + 2, none⟩ = some (.slice (some ⟨(R t).g, 0, none⟩) ((R t).H * stride (R t).W) (R t).cap)) ∧ w'.cell? ⟨B + 1, 0, none⟩ = some (.int .i64 N0) ∧ w'.cell? ⟨B + 1, 1, none⟩ = some (.int .i64 N1) ∧ w'.cell? ⟨B + 1, 2, none⟩ = some (.int .i64 N2)) := fun w' f => by
            obtain ⟨l1, l2, l3, l4⟩ := HB4.out.lbs
            have f' : Fr (fun k => w1.heap.size ≤ k ∧ k < B) w4 w' := HS6.out.trans f (fun k _ e => HIN.out t ht k (Or.inr e))
            have q := HNC.out w' f'
            exact ⟨HB6.out.ref f (l4 t ht).2.2.2 ht, q.1, q.2.1, q.2.2.1⟩
          obtain ⟨⟨k0, k0a, k0b⟩, k1, k2, k3⟩ := HK2.out w6 (Fr.refl _ _)
          go_wp2_with fail
          go_region_held3 (fun w' => (w'.cell? ⟨rb, t * 3, none⟩ = some (.int .i64 ((R t).W : Int)) ∧ w'.cell? ⟨rb, t * 3 + 1, none⟩ = some (.int .i64 ((R t).H : Int)) ∧ w'.cell? ⟨rb, t * 3 + 2, none⟩ = some (.slice (some ⟨(R t).g, 0, none⟩) ((R t).H * stride (R t).W) (R t).cap)) ∧ w'.cell? ⟨B + 1, 0, none⟩ = some (.int .i64 N0) ∧ w'.cell? ⟨B + 1, 1, none⟩ = some (.int .i64 N1) ∧ w'.cell? ⟨B + 1, 2, none⟩ = some (.int .i64 N2)) (exact HK2.out _ (by repeat (first | with_reducible exact Fr.refl _ _ | with_reducible refine Fr.drew ?_ | with_reducible refine Fr.trans ?_ hf7 (fun _ _ hh => hh)))) (first | (go_at_call 7; refine (HC2.out _ (by repeat (first | with_reducible exact Fr.refl _ _ | with_reducible refine Fr.drew ?_))).mono ?_; rintro e w7 ⟨rfl, hm7, hf7⟩))
          have HF7 : Hid (Fr (fun k => k = (R t).g) w6 w7) := by
            refine Fr.trans ?_ hf7 (fun _ _ hh => hh)
            repeat (first | with_reducible exact Fr.refl _ _ | with_reducible refine Fr.drew ?_)
          have HB7 : Hid (Bo w7 (.slice (some ⟨lb, 0, none⟩) m vc) (.slice (some ⟨rb, 0, none⟩) m uc) m (updF M t { M t with P := P' }) (updF R t { R t with P := P' })) := HB6.out.row ht HF7.out hm7
          have HS7 : Hid (Fr (fun k => w1.heap.size ≤ k ∧ k < B) w4 w7) := HS6.out.trans HF7.out (fun k _ e => HIN.out t ht k (Or.inr e))
          clear hm7 hf7 HC2 HK2 HRD k0 k0a k0b k1 k2 k3
          go_wp2_with fail
          go_meet
          exact ⟨er, _, _, rfl, rfl, HB7.out, HAG.out.pix t ht P', HFS.out.pix t P' P', HS7.out⟩
      have hdb0 : (d == 0) = false := by simp [hd0]
      by_cases hd1 : d = 1
      · have hdb : (d == 1) = true := by simp [hd1]
        clear hd1
        as_aux_lemma =>
          have hw := HB4.out.l.at_ t ht
          obtain ⟨er, P', hp, hr⟩ := fill_both (M t).W (M t).H (M t).P N0 N1 N2 N3 N4 hw.wpos hw.hpos hw.area HNI.out.1 HNI.out.2.1 HNI.out.2.2.1 HNI.out.2.2.2.1
          have HP : Hid (PDoes (M t).W (M t).H (M t).P P' 8 [.int .i64 N0, .int .i64 N1, .int .i64 N2, .int .i64 N3, .int .i64 N4] er) := hp
          have HRD : Hid (RDoes (R t).W (R t).H (R t).P P' 9 [.int .i64 N0, .int .i64 N1, .int .i64 N2, .int .i64 N3, .int .i64 N4] er) := by
            obtain ⟨e1, e2, e3⟩ := HAG.out t ht
            rw [e1, e2, e3] at hr
            exact hr
          clear hw hp hr
          have HC1 : Hid (∀ w', Fr (fun _ => False) w4 w' → Calls Tryd.prog 8 #[.pointer (some ⟨(M t).b, 0, none⟩), .int .i64 N0, .int .i64 N1, .int .i64 N2, .int .i64 N3, .int .i64 N4] w' fun e w'' => e = .returned (.int .i64 er) ∧ MapAt w'' (M t).b (M t).g (M t).cap (M t).W (M t).H P' ∧ Fr (fun k => k = (M t).g) w' w'') := fun w' f => HP.out w' _ _ _ ((HB4.out.kept f).l.at_ t ht)
          have HK1 : Hid (∀ w', Fr (fun k => k = (M t).g) w4 w' → w'.cell? ⟨lb, t, none⟩ = some (.pointer (some ⟨(M t).b, 0, none⟩)) ∧ w'.cell? ⟨B + 1, 0, none⟩ = some (.int .i64 N0) ∧ w'.cell? ⟨B + 1, 1, none⟩ = some (.int .i64 N1) ∧ w'.cell? ⟨B + 1, 2, none⟩ = some (.int .i64 N2) ∧ w'.cell? ⟨B + 1, 3, none⟩ = some (.int .i64 N3) ∧ w'.cell? ⟨B + 1, 4, none⟩ = some (.int .i64 N4)) := fun w' f => by
            obtain ⟨l1, l2, l3, l4⟩ := HB4.out.lbs
            have f' := f.mono (T := (fun k => w1.heap.size ≤ k ∧ k < B)) (fun k _ e => HIN.out t ht k (Or.inl e))
            have q := HNC.out w' f'
            exact ⟨HB4.out.ptr f (l4 t ht).1 ht, q.1, q.2.1, q.2.2.1, q.2.2.2.1, q.2.2.2.2.1⟩
          obtain ⟨k0, k1, k2, k3, k4, k5⟩ := HK1.out w4 (Fr.refl _ _)
          go_wp2_with fail
          go_region_held3 (fun w' => w'.cell? ⟨lb, t, none⟩ = some (.pointer (some ⟨(M t).b, 0, none⟩)) ∧ w'.cell? ⟨B + 1, 0, none⟩ = some (.int .i64 N0) ∧ w'.cell? ⟨B + 1, 1, none⟩ = some (.int .i64 N1) ∧ w'.cell? ⟨B + 1, 2, none⟩ = some (.int .i64 N2) ∧ w'.cell? ⟨B + 1, 3, none⟩ = some (.int .i64 N3) ∧ w'.cell? ⟨B + 1, 4, none⟩ = some (.int .i64 N4)) (exact HK1.out _ (by repeat (first | with_reducible exact Fr.refl _ _ | with_reducible refine Fr.drew ?_ | with_reducible refine Fr.trans ?_ hf6 (fun _ _ hh => hh)))) (first | (go_at_call 8; refine (HC1.out _ (by repeat (first | with_reducible exact Fr.refl _ _ | with_reducible refine Fr.drew ?_))).mono ?_; rintro e w6 ⟨rfl, hm6, hf6⟩))
          have HF6 : Hid (Fr (fun k => k = (M t).g) w4 w6) := by
            refine Fr.trans ?_ hf6 (fun _ _ hh => hh)
            repeat (first | with_reducible exact Fr.refl _ _ | with_reducible refine Fr.drew ?_)
          have HB6 : Hid (Bo w6 (.slice (some ⟨lb, 0, none⟩) m vc) (.slice (some ⟨rb, 0, none⟩) m uc) m (updF M t { M t with P := P' }) R) := HB4.out.map ht HF6.out hm6
          clear hm6 hf6 HC1 HK1 HP k0 k1 k2 k3 k4 k5
          have HC2 : Hid (∀ w', Fr (fun _ => False) w6 w' → Calls Tryd.prog 9 #[.agg #[.int .i64 ((R t).W : Int), .int .i64 ((R t).H : Int), .slice (some ⟨(R t).g, 0, none⟩) ((R t).H * stride (R t).W) (R t).cap], .int .i64 N0, .int .i64 N1, .int .i64 N2, .int .i64 N3, .int .i64 N4] w' fun e w'' => e = .returned (.int .i64 er) ∧ RowAt w'' (R t).g (R t).cap (R t).W (R t).H P' ∧ Fr (fun k => k = (R t).g) w' w'') := fun w' f => HRD.out w' _ _ ((HB6.out.kept f).r.at_ t ht)
          have HS6 : Hid (Fr (fun k => w1.heap.size ≤ k ∧ k < B) w4 w6) := HF6.out.mono (fun k _ e => HIN.out t ht k (Or.inl e))
          have HK2 : Hid (∀ w', Fr (fun k => k = (R t).g) w6 w' → (w'.cell? ⟨rb, t * 3, none⟩ = some (.int .i64 ((R t).W : Int)) ∧ w'.cell? ⟨rb, t * 3 + 1, none⟩ = some (.int .i64 ((R t).H : Int)) ∧ w'.cell? ⟨rb, t * 3 + 2, none⟩ = some (.slice (some ⟨(R t).g, 0, none⟩) ((R t).H * stride (R t).W) (R t).cap)) ∧ w'.cell? ⟨B + 1, 0, none⟩ = some (.int .i64 N0) ∧ w'.cell? ⟨B + 1, 1, none⟩ = some (.int .i64 N1) ∧ w'.cell? ⟨B + 1, 2, none⟩ = some (.int .i64 N2) ∧ w'.cell? ⟨B + 1, 3, none⟩ = some (.int .i64 N3) ∧ w'.cell? ⟨B + 1, 4, none⟩ = some (.int .i64 N4)) := fun w' f => by
            obtain ⟨l1, l2, l3, l4⟩ := HB4.out.lbs
            have f' : Fr (fun k => w1.heap.size ≤ k ∧ k < B) w4 w' := HS6.out.trans f (fun k _ e => HIN.out t ht k (Or.inr e))
            have q := HNC.out w' f'
            exact ⟨HB6.out.ref f (l4 t ht).2.2.2 ht, q.1, q.2.1, q.2.2.1, q.2.2.2.1, q.2.2.2.2.1⟩
          obtain ⟨⟨k0, k0a, k0b⟩, k1, k2, k3, k4, k5⟩ := HK2.out w6 (Fr.refl _ _)
          go_wp2_with fail
          go_region_held3 (fun w' => (w'.cell? ⟨rb, t * 3, none⟩ = some (.int .i64 ((R t).W : Int)) ∧ w'.cell? ⟨rb, t * 3 + 1, none⟩ = some (.int .i64 ((R t).H : Int)) ∧ w'.cell? ⟨rb, t * 3 + 2, none⟩ = some (.slice (some ⟨(R t).g, 0, none⟩) ((R t).H * stride (R t).W) (R t).cap)) ∧ w'.cell? ⟨B + 1, 0, none⟩ = some (.int .i64 N0) ∧ w'.cell? ⟨B + 1, 1, none⟩ = some (.int .i64 N1) ∧ w'.cell? ⟨B + 1, 2, none⟩ = some (.int .i64 N2) ∧ w'.cell? ⟨B + 1, 3, none⟩ = some (.int .i64 N3) ∧ w'.cell? ⟨B + 1, 4, none⟩ = some (.int .i64 N4)) (exact HK2.out _ (by repeat (first | with_reducible exact Fr.refl _ _ | with_reducible refine Fr.drew ?_ | with_reducible refine Fr.trans ?_ hf7 (fun _ _ hh => hh)))) (first | (go_at_call 9; refine (HC2.out _ (by repeat (first | with_reducible exact Fr.refl _ _ | with_reducible refine Fr.drew ?_))).mono ?_; rintro e w7 ⟨rfl, hm7, hf7⟩))
          have HF7 : Hid (Fr (fun k => k = (R t).g) w6 w7) := by
            refine Fr.trans ?_ hf7 (fun _ _ hh => hh)
            repeat (first | with_reducible exact Fr.refl _ _ | with_reducible refine Fr.drew ?_)
          have HB7 : Hid (Bo w7 (.slice (some ⟨lb, 0, none⟩) m vc) (.slice (some ⟨rb, 0, none⟩) m uc) m (updF M t { M t with P := P' }) (updF R t { R t with P := P' })) := HB6.out.row ht HF7.out hm7
          have HS7 : Hid (Fr (fun k => w1.heap.size ≤ k ∧ k < B) w4 w7) := HS6.out.trans HF7.out (fun k _ e => HIN.out t ht k (Or.inr e))
          clear hm7 hf7 HC2 HK2 HRD k0 k0a k0b k1 k2 k3 k4 k5
          go_wp2_with fail
          go_meet
          exact ⟨er, _, _, rfl, rfl, HB7.out, HAG.out.pix t ht P', HFS.out.pix t P' P', HS7.out⟩
      have hdb1 : (d == 1) = false := by simp [hd1]
      by_cases hd2 : d = 2
      · have hdb : (d == 2) = true := by simp [hd2]
        clear hd2
        as_aux_lemma =>
          have hw := HB4.out.l.at_ t ht
          have hw2 := HB4.out.l.at_ s hs
          obtain ⟨er, P', hp, hr⟩ := blit_both (M t).W (M t).H (M t).P (M s).W (M s).H (M s).P N0 N1 N2 N3 N4 N5 N6 hw.wpos hw.hpos hw.area hw2.wpos hw2.hpos hw2.area HNI.out.1 HNI.out.2.1 HNI.out.2.2.1 HNI.out.2.2.2.1 HNI.out.2.2.2.2.1 HNI.out.2.2.2.2.2.1
          obtain ⟨e1, e2, e3⟩ := HAG.out t ht
          obtain ⟨e4, e5, e6⟩ := HAG.out s hs
          have HC1 : Hid (∀ w', Fr (fun _ => False) w4 w' → Calls Tryd.prog 10 #[.pointer (some ⟨(M t).b, 0, none⟩), .pointer (some ⟨(M s).b, 0, none⟩), .int .i64 N0, .int .i64 N1, .int .i64 N2, .int .i64 N3, .int .i64 N4, .int .i64 N5, .int .i64 N6] w' fun e w'' => e = .returned (.int .i64 er) ∧ MapAt w'' (M t).b (M t).g (M t).cap (M t).W (M t).H P' ∧ Fr (fun k => k = (M t).g) w' w'') := fun w' f => by
            refine hp w' _ _ _ _ _ _ ((HB4.out.kept f).l.at_ t ht) ((HB4.out.kept f).l.at_ s hs) ?_
            by_cases e : s = t
            · subst e; exact Or.inl ⟨rfl, rfl, rfl, rfl, rfl, rfl⟩
            · exact Or.inr ⟨(HB4.out.l.ne s t hs ht e).1, (HB4.out.bg hs ht).1, (HB4.out.l.ne s t hs ht e).2⟩
          rw [e1, e2, e3, e4, e5, e6] at hr
          have HRD : Hid (∀ w g cap gs caps, RowAt w g cap (R t).W (R t).H (R t).P → RowAt w gs caps (R s).W (R s).H (R s).P → Calls Tryd.prog 11 #[.agg #[.int .i64 ((R t).W : Int), .int .i64 ((R t).H : Int), .slice (some ⟨g, 0, none⟩) ((R t).H * stride (R t).W) cap], .agg #[.int .i64 ((R s).W : Int), .int .i64 ((R s).H : Int), .slice (some ⟨gs, 0, none⟩) ((R s).H * stride (R s).W) caps], .int .i64 N0, .int .i64 N1, .int .i64 N2, .int .i64 N3, .int .i64 N4, .int .i64 N5, .int .i64 N6] w fun e w' => e = .returned (.int .i64 er) ∧ RowAt w' g cap (R t).W (R t).H P' ∧ Fr (fun k => k = g) w w') := hr
          clear hw hw2 hp hr e1 e2 e3 e4 e5 e6
          have HK1 : Hid (∀ w', Fr (fun k => k = (M t).g) w4 w' → w'.cell? ⟨lb, t, none⟩ = some (.pointer (some ⟨(M t).b, 0, none⟩)) ∧ w'.cell? ⟨lb, s, none⟩ = some (.pointer (some ⟨(M s).b, 0, none⟩)) ∧ w'.cell? ⟨B + 1, 0, none⟩ = some (.int .i64 N0) ∧ w'.cell? ⟨B + 1, 1, none⟩ = some (.int .i64 N1) ∧ w'.cell? ⟨B + 1, 2, none⟩ = some (.int .i64 N2) ∧ w'.cell? ⟨B + 1, 3, none⟩ = some (.int .i64 N3) ∧ w'.cell? ⟨B + 1, 4, none⟩ = some (.int .i64 N4) ∧ w'.cell? ⟨B + 1, 5, none⟩ = some (.int .i64 N5) ∧ w'.cell? ⟨B + 1, 6, none⟩ = some (.int .i64 N6)) := fun w' f => by
            obtain ⟨l1, l2, l3, l4⟩ := HB4.out.lbs
            have f' := f.mono (T := (fun k => w1.heap.size ≤ k ∧ k < B)) (fun k _ e => HIN.out t ht k (Or.inl e))
            have q := HNC.out w' f'
            exact ⟨HB4.out.ptr f (l4 t ht).1 ht, HB4.out.ptr f (l4 t ht).1 hs, q.1, q.2.1, q.2.2.1, q.2.2.2.1, q.2.2.2.2.1, q.2.2.2.2.2.1, q.2.2.2.2.2.2.1⟩
          obtain ⟨k0, k0s, k1, k2, k3, k4, k5, k6, k7⟩ := HK1.out w4 (Fr.refl _ _)
          go_wp2_with fail
          go_region_held3 (fun w' => w'.cell? ⟨lb, t, none⟩ = some (.pointer (some ⟨(M t).b, 0, none⟩)) ∧ w'.cell? ⟨lb, s, none⟩ = some (.pointer (some ⟨(M s).b, 0, none⟩)) ∧ w'.cell? ⟨B + 1, 0, none⟩ = some (.int .i64 N0) ∧ w'.cell? ⟨B + 1, 1, none⟩ = some (.int .i64 N1) ∧ w'.cell? ⟨B + 1, 2, none⟩ = some (.int .i64 N2) ∧ w'.cell? ⟨B + 1, 3, none⟩ = some (.int .i64 N3) ∧ w'.cell? ⟨B + 1, 4, none⟩ = some (.int .i64 N4) ∧ w'.cell? ⟨B + 1, 5, none⟩ = some (.int .i64 N5) ∧ w'.cell? ⟨B + 1, 6, none⟩ = some (.int .i64 N6)) (exact HK1.out _ (by repeat (first | with_reducible exact Fr.refl _ _ | with_reducible refine Fr.drew ?_ | with_reducible refine Fr.trans ?_ hf6 (fun _ _ hh => hh)))) (first | (go_at_call 10; refine (HC1.out _ (by repeat (first | with_reducible exact Fr.refl _ _ | with_reducible refine Fr.drew ?_))).mono ?_; rintro e w6 ⟨rfl, hm6, hf6⟩))
          have HF6 : Hid (Fr (fun k => k = (M t).g) w4 w6) := by
            refine Fr.trans ?_ hf6 (fun _ _ hh => hh)
            repeat (first | with_reducible exact Fr.refl _ _ | with_reducible refine Fr.drew ?_)
          have HB6 : Hid (Bo w6 (.slice (some ⟨lb, 0, none⟩) m vc) (.slice (some ⟨rb, 0, none⟩) m uc) m (updF M t { M t with P := P' }) R) := HB4.out.map ht HF6.out hm6
          clear hm6 hf6 HC1 HK1 k0 k0s k1 k2 k3 k4 k5 k6 k7
          have HC2 : Hid (∀ w', Fr (fun _ => False) w6 w' → Calls Tryd.prog 11 #[.agg #[.int .i64 ((R t).W : Int), .int .i64 ((R t).H : Int), .slice (some ⟨(R t).g, 0, none⟩) ((R t).H * stride (R t).W) (R t).cap], .agg #[.int .i64 ((R s).W : Int), .int .i64 ((R s).H : Int), .slice (some ⟨(R s).g, 0, none⟩) ((R s).H * stride (R s).W) (R s).cap], .int .i64 N0, .int .i64 N1, .int .i64 N2, .int .i64 N3, .int .i64 N4, .int .i64 N5, .int .i64 N6] w' fun e w'' => e = .returned (.int .i64 er) ∧ RowAt w'' (R t).g (R t).cap (R t).W (R t).H P' ∧ Fr (fun k => k = (R t).g) w' w'') := fun w' f => HRD.out w' _ _ _ _ ((HB6.out.kept f).r.at_ t ht) ((HB6.out.kept f).r.at_ s hs)
          have HS6 : Hid (Fr (fun k => w1.heap.size ≤ k ∧ k < B) w4 w6) := HF6.out.mono (fun k _ e => HIN.out t ht k (Or.inl e))
          have HK2 : Hid (∀ w', Fr (fun k => k = (R t).g) w6 w' → (w'.cell? ⟨rb, t * 3, none⟩ = some (.int .i64 ((R t).W : Int)) ∧ w'.cell? ⟨rb, t * 3 + 1, none⟩ = some (.int .i64 ((R t).H : Int)) ∧ w'.cell? ⟨rb, t * 3 + 2, none⟩ = some (.slice (some ⟨(R t).g, 0, none⟩) ((R t).H * stride (R t).W) (R t).cap)) ∧ (w'.cell? ⟨rb, s * 3, none⟩ = some (.int .i64 ((R s).W : Int)) ∧ w'.cell? ⟨rb, s * 3 + 1, none⟩ = some (.int .i64 ((R s).H : Int)) ∧ w'.cell? ⟨rb, s * 3 + 2, none⟩ = some (.slice (some ⟨(R s).g, 0, none⟩) ((R s).H * stride (R s).W) (R s).cap)) ∧ w'.cell? ⟨B + 1, 0, none⟩ = some (.int .i64 N0) ∧ w'.cell? ⟨B + 1, 1, none⟩ = some (.int .i64 N1) ∧ w'.cell? ⟨B + 1, 2, none⟩ = some (.int .i64 N2) ∧ w'.cell? ⟨B + 1, 3, none⟩ = some (.int .i64 N3) ∧ w'.cell? ⟨B + 1, 4, none⟩ = some (.int .i64 N4) ∧ w'.cell? ⟨B + 1, 5, none⟩ = some (.int .i64 N5) ∧ w'.cell? ⟨B + 1, 6, none⟩ = some (.int .i64 N6)) := fun w' f => by
            obtain ⟨l1, l2, l3, l4⟩ := HB4.out.lbs
            have f' : Fr (fun k => w1.heap.size ≤ k ∧ k < B) w4 w' := HS6.out.trans f (fun k _ e => HIN.out t ht k (Or.inr e))
            have q := HNC.out w' f'
            exact ⟨HB6.out.ref f (l4 t ht).2.2.2 ht, HB6.out.ref f (l4 t ht).2.2.2 hs, q.1, q.2.1, q.2.2.1, q.2.2.2.1, q.2.2.2.2.1, q.2.2.2.2.2.1, q.2.2.2.2.2.2.1⟩
          obtain ⟨⟨k0, k0a, k0b⟩, ⟨k0s, k0t, k0u⟩, k1, k2, k3, k4, k5, k6, k7⟩ := HK2.out w6 (Fr.refl _ _)
          go_wp2_with fail
          go_region_held3 (fun w' => (w'.cell? ⟨rb, t * 3, none⟩ = some (.int .i64 ((R t).W : Int)) ∧ w'.cell? ⟨rb, t * 3 + 1, none⟩ = some (.int .i64 ((R t).H : Int)) ∧ w'.cell? ⟨rb, t * 3 + 2, none⟩ = some (.slice (some ⟨(R t).g, 0, none⟩) ((R t).H * stride (R t).W) (R t).cap)) ∧ (w'.cell? ⟨rb, s * 3, none⟩ = some (.int .i64 ((R s).W : Int)) ∧ w'.cell? ⟨rb, s * 3 + 1, none⟩ = some (.int .i64 ((R s).H : Int)) ∧ w'.cell? ⟨rb, s * 3 + 2, none⟩ = some (.slice (some ⟨(R s).g, 0, none⟩) ((R s).H * stride (R s).W) (R s).cap)) ∧ w'.cell? ⟨B + 1, 0, none⟩ = some (.int .i64 N0) ∧ w'.cell? ⟨B + 1, 1, none⟩ = some (.int .i64 N1) ∧ w'.cell? ⟨B + 1, 2, none⟩ = some (.int .i64 N2) ∧ w'.cell? ⟨B + 1, 3, none⟩ = some (.int .i64 N3) ∧ w'.cell? ⟨B + 1, 4, none⟩ = some (.int .i64 N4) ∧ w'.cell? ⟨B + 1, 5, none⟩ = some (.int .i64 N5) ∧ w'.cell? ⟨B + 1, 6, none⟩ = some (.int .i64 N6)) (exact HK2.out _ (by repeat (first | with_reducible exact Fr.refl _ _ | with_reducible refine Fr.drew ?_ | with_reducible refine Fr.trans ?_ hf7 (fun _ _ hh => hh)))) (first | (go_at_call 11; refine (HC2.out _ (by repeat (first | with_reducible exact Fr.refl _ _ | with_reducible refine Fr.drew ?_))).mono ?_; rintro e w7 ⟨rfl, hm7, hf7⟩))
          have HF7 : Hid (Fr (fun k => k = (R t).g) w6 w7) := by
            refine Fr.trans ?_ hf7 (fun _ _ hh => hh)
            repeat (first | with_reducible exact Fr.refl _ _ | with_reducible refine Fr.drew ?_)
          have HB7 : Hid (Bo w7 (.slice (some ⟨lb, 0, none⟩) m vc) (.slice (some ⟨rb, 0, none⟩) m uc) m (updF M t { M t with P := P' }) (updF R t { R t with P := P' })) := HB6.out.row ht HF7.out hm7
          have HS7 : Hid (Fr (fun k => w1.heap.size ≤ k ∧ k < B) w4 w7) := HS6.out.trans HF7.out (fun k _ e => HIN.out t ht k (Or.inr e))
          clear hm7 hf7 HC2 HK2 HRD k0 k0a k0b k0s k0t k0u k1 k2 k3 k4 k5 k6 k7
          go_wp2_with fail
          go_meet
          exact ⟨er, _, _, rfl, rfl, HB7.out, HAG.out.pix t ht P', HFS.out.pix t P' P', HS7.out⟩
      have hdb2 : (d == 2) = false := by simp [hd2]
      by_cases hd3 : d = 3
      · have hdb : (d == 3) = true := by simp [hd3]
        clear hd3
        as_aux_lemma =>
          have k0 := HB4.out.ptr (Fr.refl (fun _ => False) _) (fun h => h) ht
          go_wp2_with fail
          refine (invert_any (M t).b (M t).g (M t).cap (M t).W (M t).H (M t).P w4 (HB4.out.l.at_ t ht)).mono ?_
          rintro e w6 ⟨rfl, hm6, hf6⟩
          have HF6 : Hid (Fr (fun k => k = (M t).g) w4 w6) := hf6
          have HB6 : Hid (Bo w6 (.slice (some ⟨lb, 0, none⟩) m vc) (.slice (some ⟨rb, 0, none⟩) m uc) m (updF M t { M t with P := fun a e => !(M t).P a e }) R) := HB4.out.map ht hf6 hm6
          clear hm6 hf6 k0
          obtain ⟨k0, k0a, k0b⟩ := HB6.out.ref (Fr.refl (fun _ => False) _) (fun h => h) ht
          go_wp2_with fail
          have hri : Calls Tryd.prog 13 #[.agg #[.int .i64 ((R t).W : Int), .int .i64 ((R t).H : Int), .slice (some ⟨(R t).g, 0, none⟩) ((R t).H * stride (R t).W) (R t).cap]] w6 fun e w' => e = .returned (.tuple #[]) ∧ RowAt w' (R t).g (R t).cap (R t).W (R t).H (fun a e => !(M t).P a e) ∧ Fr (fun k => k = (R t).g) w6 w' := by
            obtain ⟨e1, e2, e3⟩ := HAG.out t ht
            have hw := HB4.out.l.at_ t ht
            rw [e3]
            exact rinvert_any (R t).W (R t).H (R t).g (R t).cap (R t).P w6 (HB6.out.r.at_ t ht) (by rw [← e1]; exact hw.wpos) (by rw [← e2]; exact hw.hpos) (by rw [← e1, ← e2]; exact hw.area)
          refine hri.mono ?_
          rintro e w7 ⟨rfl, hm7, hf7⟩
          have HB7 : Hid (Bo w7 (.slice (some ⟨lb, 0, none⟩) m vc) (.slice (some ⟨rb, 0, none⟩) m uc) m (updF M t { M t with P := fun a e => !(M t).P a e }) (updF R t { R t with P := fun a e => !(M t).P a e })) := HB6.out.row ht hf7 hm7
          have HS7 : Hid (Fr (fun k => w1.heap.size ≤ k ∧ k < B) w4 w7) := (HF6.out.mono (fun k _ e => HIN.out t ht k (Or.inl e))).trans hf7 (fun k _ e => HIN.out t ht k (Or.inr e))
          clear hri hm7 hf7 k0 k0a k0b
          go_wp2_with fail
          go_meet
          exact ⟨0, _, _, rfl, rfl, HB7.out, HAG.out.pix t ht _, HFS.out.pix t _ _, HS7.out⟩
      have hdb3 : (d == 3) = false := by simp [hd3]
      by_cases hd4 : d = 4
      · have hdb : (d == 4) = true := by simp [hd4]
        clear hd4
        as_aux_lemma =>
          have k0 := HB4.out.ptr (Fr.refl (fun _ => False) _) (fun h => h) hs
          go_wp2_with fail
          refine (mirror_any (M s).b (M s).g (M s).cap (M s).W (M s).H (M s).P w4 (HB4.out.l.at_ s hs)).mono ?_
          rintro e w6 ⟨b2, g2, rfl, hn⟩
          have HN : Hid (NewMap w4 w6 b2 g2 ((M s).H * stride (M s).W) (M s).W (M s).H (mirPix (M s).W (M s).P)) := hn
          have HB6 : Hid (Bo (w6.setCell ⟨lb, t, none⟩ (.pointer (some ⟨b2, 0, none⟩))) (.slice (some ⟨lb, 0, none⟩) m vc) (.slice (some ⟨rb, 0, none⟩) m uc) m (updF M t ⟨b2, g2, (M s).H * stride (M s).W, (M s).W, (M s).H, (mirPix (M s).W (M s).P)⟩) R) := HB4.out.newMap ht ⟨b2, g2, (M s).H * stride (M s).W, (M s).W, (M s).H, (mirPix (M s).W (M s).P)⟩ hn
          have HS6 : Hid (Fr (fun k => w1.heap.size ≤ k ∧ k < B) w4 (w6.setCell ⟨lb, t, none⟩ (.pointer (some ⟨b2, 0, none⟩)))) := (hn.fr.mono (fun _ _ h => h.elim)).setCell (p := ⟨lb, t, none⟩) (fun _ => HLB.out.1) _
          have hk6 : w6.cell? ⟨lb, t, none⟩ = some (.pointer (some ⟨(M t).b, 0, none⟩)) := HB4.out.ptr hn.fr (fun h => h) ht
          have hz6 := (HB4.out.kept hn.fr).l.row.frozenAt t
          clear hn k0
          obtain ⟨k0, k0a, k0b⟩ := HB6.out.ref (Fr.refl (fun _ => False) _) (fun h => h) hs
          go_wp2_with fail
          generalize (w6.setCell ⟨lb, t, none⟩ (.pointer (some ⟨b2, 0, none⟩))) = w7 at *
          have hri : Calls Tryd.prog 15 #[.agg #[.int .i64 ((R s).W : Int), .int .i64 ((R s).H : Int), .slice (some ⟨(R s).g, 0, none⟩) ((R s).H * stride (R s).W) (R s).cap]] w7 fun e w' => ∃ g, e = .returned (.agg #[.int .i64 ((R s).W : Int), .int .i64 ((R s).H : Int), .slice (some ⟨g, 0, none⟩) ((R s).H * stride (R s).W) ((R s).H * stride (R s).W)]) ∧ RowAt w' g ((R s).H * stride (R s).W) (R s).W (R s).H (mirPix (R s).W (R s).P) ∧ Fr (fun _ => False) w7 w' ∧ w7.heap.size ≤ g := by
            obtain ⟨e1, e2, e3⟩ := HAG.out s hs
            have hw := HB4.out.l.at_ s hs
            have hr := HB6.out.r.at_ s hs
            have hl : (R s).H * stride (R s).W ≤ 1048576 := by rw [← e1, ← e2]; exact hw.words_le
            exact rmirror_any (R s).W (R s).H _ (R s).P w7 (hr.seen hl) (by rw [← e1]; exact hw.wpos) (by rw [← e2]; exact hw.hpos) (by rw [← e1, ← e2]; exact hw.area)
          refine hri.mono ?_
          rintro e w8 ⟨g3, rfl, hr8, hf8, hg8⟩
          obtain ⟨r0, r1, r2⟩ := HB6.out.ref hf8 (fun h => h) ht
          have hz8a := (HB6.out.kept hf8).r.row.frozenAt (t * 3)
          have hz8b := (HB6.out.kept hf8).r.row.frozenAt (t * 3 + 1)
          have hz8c := (HB6.out.kept hf8).r.row.frozenAt (t * 3 + 2)
          have HB8 : Hid (Bo (((w8.setCell ⟨rb, t * 3, none⟩ (.int .i64 ((R s).W : Int))).setCell ⟨rb, t * 3 + 1, none⟩ (.int .i64 ((R s).H : Int))).setCell ⟨rb, t * 3 + 2, none⟩ (.slice (some ⟨g3, 0, none⟩) ((R s).H * stride (R s).W) ((R s).H * stride (R s).W))) (.slice (some ⟨lb, 0, none⟩) m vc) (.slice (some ⟨rb, 0, none⟩) m uc) m (updF M t ⟨b2, g2, (M s).H * stride (M s).W, (M s).W, (M s).H, (mirPix (M s).W (M s).P)⟩) (updF R t ⟨g3, (R s).H * stride (R s).W, (R s).W, (R s).H, (mirPix (R s).W (R s).P)⟩)) := HB6.out.newRow ht ⟨g3, (R s).H * stride (R s).W, (R s).W, (R s).H, (mirPix (R s).W (R s).P)⟩ hr8 hf8 hg8
          have HS8 : Hid (Fr (fun k => w1.heap.size ≤ k ∧ k < B) w4 (((w8.setCell ⟨rb, t * 3, none⟩ (.int .i64 ((R s).W : Int))).setCell ⟨rb, t * 3 + 1, none⟩ (.int .i64 ((R s).H : Int))).setCell ⟨rb, t * 3 + 2, none⟩ (.slice (some ⟨g3, 0, none⟩) ((R s).H * stride (R s).W) ((R s).H * stride (R s).W)))) := (((HS6.out.trans hf8 (fun _ _ h => h.elim)).setCell (p := ⟨rb, t * 3, none⟩) (fun _ => HLB.out.2) _).setCell (p := ⟨rb, t * 3 + 1, none⟩) (fun _ => HLB.out.2) _).setCell (p := ⟨rb, t * 3 + 2, none⟩) (fun _ => HLB.out.2) _
          have HA8 : Hid (Ag m (updF M t ⟨b2, g2, (M s).H * stride (M s).W, (M s).W, (M s).H, (mirPix (M s).W (M s).P)⟩) (updF R t ⟨g3, (R s).H * stride (R s).W, (R s).W, (R s).H, (mirPix (R s).W (R s).P)⟩)) := by
            obtain ⟨e1, e2, e3⟩ := HAG.out s hs
            exact HAG.out.set t _ _ e1 e2 (by show (mirPix (M s).W (M s).P) = (mirPix (R s).W (R s).P); rw [e1, e3])
          have HFS8 : Hid (Fs w1 (.slice (some ⟨lb, 0, none⟩) m vc) (.slice (some ⟨rb, 0, none⟩) m uc) m (updF M t ⟨b2, g2, (M s).H * stride (M s).W, (M s).W, (M s).H, (mirPix (M s).W (M s).P)⟩) (updF R t ⟨g3, (R s).H * stride (R s).W, (R s).W, (R s).H, (mirPix (R s).W (R s).P)⟩)) := by
            have h1 := HN.out.nb
            have h2 := HN.out.ng
            have h3 := HW4.out
            have h4 := HS6.out.size
            exact HFS.out.set t _ _ (by show _ ≤ b2; omega) (by show _ ≤ g2; omega) (by show _ ≤ g3; omega)
          clear hri hr8 hf8 hg8 k0 k0a k0b
          go_wp2_with fail
          go_meet
          exact ⟨0, _, _, rfl, rfl, HB8.out, HA8.out, HFS8.out, HS8.out⟩
      have hdb4 : (d == 4) = false := by simp [hd4]
      by_cases hd5 : d = 5
      · have hdb : (d == 5) = true := by simp [hd5]
        clear hd5
        as_aux_lemma =>
          have k0 := HB4.out.ptr (Fr.refl (fun _ => False) _) (fun h => h) hs
          go_wp2_with fail
          refine (turn_any (M s).b (M s).g (M s).cap (M s).W (M s).H (M s).P w4 (HB4.out.l.at_ s hs) (HTB.out w4 HF04.out).1 (HTB.out w4 HF04.out).2).mono ?_
          rintro e w6 ⟨b2, g2, rfl, hn⟩
          have HN : Hid (NewMap w4 w6 b2 g2 ((M s).W * stride (M s).H) (M s).H (M s).W (turnPix (M s).H (M s).P)) := hn
          have HB6 : Hid (Bo (w6.setCell ⟨lb, t, none⟩ (.pointer (some ⟨b2, 0, none⟩))) (.slice (some ⟨lb, 0, none⟩) m vc) (.slice (some ⟨rb, 0, none⟩) m uc) m (updF M t ⟨b2, g2, (M s).W * stride (M s).H, (M s).H, (M s).W, (turnPix (M s).H (M s).P)⟩) R) := HB4.out.newMap ht ⟨b2, g2, (M s).W * stride (M s).H, (M s).H, (M s).W, (turnPix (M s).H (M s).P)⟩ hn
          have HS6 : Hid (Fr (fun k => w1.heap.size ≤ k ∧ k < B) w4 (w6.setCell ⟨lb, t, none⟩ (.pointer (some ⟨b2, 0, none⟩)))) := (hn.fr.mono (fun _ _ h => h.elim)).setCell (p := ⟨lb, t, none⟩) (fun _ => HLB.out.1) _
          have hk6 : w6.cell? ⟨lb, t, none⟩ = some (.pointer (some ⟨(M t).b, 0, none⟩)) := HB4.out.ptr hn.fr (fun h => h) ht
          have hz6 := (HB4.out.kept hn.fr).l.row.frozenAt t
          clear hn k0
          obtain ⟨k0, k0a, k0b⟩ := HB6.out.ref (Fr.refl (fun _ => False) _) (fun h => h) hs
          go_wp2_with fail
          generalize (w6.setCell ⟨lb, t, none⟩ (.pointer (some ⟨b2, 0, none⟩))) = w7 at *
          have hri : Calls Tryd.prog 17 #[.agg #[.int .i64 ((R s).W : Int), .int .i64 ((R s).H : Int), .slice (some ⟨(R s).g, 0, none⟩) ((R s).H * stride (R s).W) (R s).cap]] w7 fun e w' => ∃ g, e = .returned (.agg #[.int .i64 ((R s).H : Int), .int .i64 ((R s).W : Int), .slice (some ⟨g, 0, none⟩) ((R s).W * stride (R s).H) ((R s).W * stride (R s).H)]) ∧ RowAt w' g ((R s).W * stride (R s).H) (R s).H (R s).W (turnPix (R s).H (R s).P) ∧ Fr (fun _ => False) w7 w' ∧ w7.heap.size ≤ g := by
            obtain ⟨e1, e2, e3⟩ := HAG.out s hs
            have hw := HB4.out.l.at_ s hs
            have hr := HB6.out.r.at_ s hs
            have hl : (R s).H * stride (R s).W ≤ 1048576 := by rw [← e1, ← e2]; exact hw.words_le
            exact rturn_any (R s).W (R s).H _ (R s).P w7 (hr.seen hl) (by rw [← e1]; exact hw.wpos) (by rw [← e2]; exact hw.hpos) (by rw [← e1, ← e2]; exact hw.area)
          refine hri.mono ?_
          rintro e w8 ⟨g3, rfl, hr8, hf8, hg8⟩
          obtain ⟨r0, r1, r2⟩ := HB6.out.ref hf8 (fun h => h) ht
          have hz8a := (HB6.out.kept hf8).r.row.frozenAt (t * 3)
          have hz8b := (HB6.out.kept hf8).r.row.frozenAt (t * 3 + 1)
          have hz8c := (HB6.out.kept hf8).r.row.frozenAt (t * 3 + 2)
          have HB8 : Hid (Bo (((w8.setCell ⟨rb, t * 3, none⟩ (.int .i64 ((R s).H : Int))).setCell ⟨rb, t * 3 + 1, none⟩ (.int .i64 ((R s).W : Int))).setCell ⟨rb, t * 3 + 2, none⟩ (.slice (some ⟨g3, 0, none⟩) ((R s).W * stride (R s).H) ((R s).W * stride (R s).H))) (.slice (some ⟨lb, 0, none⟩) m vc) (.slice (some ⟨rb, 0, none⟩) m uc) m (updF M t ⟨b2, g2, (M s).W * stride (M s).H, (M s).H, (M s).W, (turnPix (M s).H (M s).P)⟩) (updF R t ⟨g3, (R s).W * stride (R s).H, (R s).H, (R s).W, (turnPix (R s).H (R s).P)⟩)) := HB6.out.newRow ht ⟨g3, (R s).W * stride (R s).H, (R s).H, (R s).W, (turnPix (R s).H (R s).P)⟩ hr8 hf8 hg8
          have HS8 : Hid (Fr (fun k => w1.heap.size ≤ k ∧ k < B) w4 (((w8.setCell ⟨rb, t * 3, none⟩ (.int .i64 ((R s).H : Int))).setCell ⟨rb, t * 3 + 1, none⟩ (.int .i64 ((R s).W : Int))).setCell ⟨rb, t * 3 + 2, none⟩ (.slice (some ⟨g3, 0, none⟩) ((R s).W * stride (R s).H) ((R s).W * stride (R s).H)))) := (((HS6.out.trans hf8 (fun _ _ h => h.elim)).setCell (p := ⟨rb, t * 3, none⟩) (fun _ => HLB.out.2) _).setCell (p := ⟨rb, t * 3 + 1, none⟩) (fun _ => HLB.out.2) _).setCell (p := ⟨rb, t * 3 + 2, none⟩) (fun _ => HLB.out.2) _
          have HA8 : Hid (Ag m (updF M t ⟨b2, g2, (M s).W * stride (M s).H, (M s).H, (M s).W, (turnPix (M s).H (M s).P)⟩) (updF R t ⟨g3, (R s).W * stride (R s).H, (R s).H, (R s).W, (turnPix (R s).H (R s).P)⟩)) := by
            obtain ⟨e1, e2, e3⟩ := HAG.out s hs
            exact HAG.out.set t _ _ e2 e1 (by show (turnPix (M s).H (M s).P) = (turnPix (R s).H (R s).P); rw [e2, e3])
          have HFS8 : Hid (Fs w1 (.slice (some ⟨lb, 0, none⟩) m vc) (.slice (some ⟨rb, 0, none⟩) m uc) m (updF M t ⟨b2, g2, (M s).W * stride (M s).H, (M s).H, (M s).W, (turnPix (M s).H (M s).P)⟩) (updF R t ⟨g3, (R s).W * stride (R s).H, (R s).H, (R s).W, (turnPix (R s).H (R s).P)⟩)) := by
            have h1 := HN.out.nb
            have h2 := HN.out.ng
            have h3 := HW4.out
            have h4 := HS6.out.size
            exact HFS.out.set t _ _ (by show _ ≤ b2; omega) (by show _ ≤ g2; omega) (by show _ ≤ g3; omega)
          clear hri hr8 hf8 hg8 k0 k0a k0b
          go_wp2_with fail
          go_meet
          exact ⟨0, _, _, rfl, rfl, HB8.out, HA8.out, HFS8.out, HS8.out⟩
      have hdb5 : (d == 5) = false := by simp [hd5]
      as_aux_lemma =>
        have HC1 : Hid (∀ w', Fr (fun _ => False) w4 w' → Calls Tryd.prog 18 #[.pointer (some ⟨(M s).b, 0, none⟩), .agg #[.int .i64 ((R s).W : Int), .int .i64 ((R s).H : Int), .slice (some ⟨(R s).g, 0, none⟩) ((R s).H * stride (R s).W) (R s).cap], .agg #[.int .i64 N0, .int .i64 N1, .int .i64 N2, .int .i64 N3, .int .i64 N4, .int .i64 N5, .int .i64 N6, .int .i64 N7]] w' fun e w'' => e = .returned (.bool true) ∧ Fr (fun _ => False) w' w'') := fun w' f => by
          obtain ⟨e1, e2, e3⟩ := HAG.out s hs
          have h := (HB4.out.kept f).l.at_ s hs
          rw [e1, e2, e3] at h
          exact crop_law _ _ _ _ _ _ _ _ N0 N1 N2 N3 N4 N5 N6 N7 w' h ((HB4.out.kept f).r.at_ s hs) HNI.out.1 HNI.out.2.1 HNI.out.2.2.1 HNI.out.2.2.2.1
        have HK1 : Hid (∀ w', Fr (fun _ => False) w4 w' → w'.cell? ⟨lb, s, none⟩ = some (.pointer (some ⟨(M s).b, 0, none⟩)) ∧ (w'.cell? ⟨rb, s * 3, none⟩ = some (.int .i64 ((R s).W : Int)) ∧ w'.cell? ⟨rb, s * 3 + 1, none⟩ = some (.int .i64 ((R s).H : Int)) ∧ w'.cell? ⟨rb, s * 3 + 2, none⟩ = some (.slice (some ⟨(R s).g, 0, none⟩) ((R s).H * stride (R s).W) (R s).cap)) ∧ w'.cell? ⟨B + 1, 0, none⟩ = some (.int .i64 N0) ∧ w'.cell? ⟨B + 1, 1, none⟩ = some (.int .i64 N1) ∧ w'.cell? ⟨B + 1, 2, none⟩ = some (.int .i64 N2) ∧ w'.cell? ⟨B + 1, 3, none⟩ = some (.int .i64 N3) ∧ w'.cell? ⟨B + 1, 4, none⟩ = some (.int .i64 N4) ∧ w'.cell? ⟨B + 1, 5, none⟩ = some (.int .i64 N5) ∧ w'.cell? ⟨B + 1, 6, none⟩ = some (.int .i64 N6) ∧ w'.cell? ⟨B + 1, 7, none⟩ = some (.int .i64 N7)) := fun w' f => ⟨HB4.out.ptr f (fun h => h) hs, HB4.out.ref f (fun h => h) hs, HNC.out w' (f.mono (fun _ _ h => h.elim))⟩
        obtain ⟨k0, ⟨k0a, k0b, k0c⟩, k1, k2, k3, k4, k5, k6, k7, k8⟩ := HK1.out w4 (Fr.refl _ _)
        go_wp2_with fail
        go_region_held3 (fun w' => w'.cell? ⟨lb, s, none⟩ = some (.pointer (some ⟨(M s).b, 0, none⟩)) ∧ (w'.cell? ⟨rb, s * 3, none⟩ = some (.int .i64 ((R s).W : Int)) ∧ w'.cell? ⟨rb, s * 3 + 1, none⟩ = some (.int .i64 ((R s).H : Int)) ∧ w'.cell? ⟨rb, s * 3 + 2, none⟩ = some (.slice (some ⟨(R s).g, 0, none⟩) ((R s).H * stride (R s).W) (R s).cap)) ∧ w'.cell? ⟨B + 1, 0, none⟩ = some (.int .i64 N0) ∧ w'.cell? ⟨B + 1, 1, none⟩ = some (.int .i64 N1) ∧ w'.cell? ⟨B + 1, 2, none⟩ = some (.int .i64 N2) ∧ w'.cell? ⟨B + 1, 3, none⟩ = some (.int .i64 N3) ∧ w'.cell? ⟨B + 1, 4, none⟩ = some (.int .i64 N4) ∧ w'.cell? ⟨B + 1, 5, none⟩ = some (.int .i64 N5) ∧ w'.cell? ⟨B + 1, 6, none⟩ = some (.int .i64 N6) ∧ w'.cell? ⟨B + 1, 7, none⟩ = some (.int .i64 N7)) (exact HK1.out _ (by repeat (first | with_reducible exact Fr.refl _ _ | with_reducible refine Fr.drew ?_ | with_reducible refine Fr.trans ?_ hf6 (fun _ _ hh => hh)))) (first | (go_at_call 18; refine (HC1.out _ (by repeat (first | with_reducible exact Fr.refl _ _ | with_reducible refine Fr.drew ?_))).mono ?_; rintro e w6 ⟨rfl, hf6⟩))
        have HF6 : Hid (Fr (fun _ => False) w4 w6) := by
          refine Fr.trans ?_ hf6 (fun _ _ hh => hh)
          repeat (first | with_reducible exact Fr.refl _ _ | with_reducible refine Fr.drew ?_)
        clear hf6 HC1 HK1 k0 k0a k0b k0c k1 k2 k3 k4 k5 k6 k7 k8
        go_wp2_with fail
        go_meet
        exact ⟨0, M, R, rfl, rfl, HB4.out.kept HF6.out, HAG.out, HFS.out, HF6.out.mono (fun _ _ h => h.elim)⟩
    case' rest =>
      as_aux_lemma =>
        obtain ⟨er, M, R, rfl, rfl, hb9, hag9, hfs9, hst9⟩ := hcut
        have HB9 : Hid (Bo wc (.slice (some ⟨lb, 0, none⟩) m vc) (.slice (some ⟨rb, 0, none⟩) m uc) m M R) := hb9
        have HAG9 : Hid (Ag m M R) := hag9
        have HFS9 : Hid (Fs w1 (.slice (some ⟨lb, 0, none⟩) m vc) (.slice (some ⟨rb, 0, none⟩) m uc) m M R) := hfs9
        have HST9 : Hid (Fr (fun k => w1.heap.size ≤ k ∧ k < B) w4 wc) := hst9
        clear hb9 hag9 hfs9 hst9
        have HMR : Hid (∀ i, i < m → ∀ w', Fr (fun _ => False) wc w' → MapAt w' (M i).b (M i).g (M i).cap (R i).W (R i).H (R i).P ∧ RowAt w' (R i).g (R i).cap (R i).W (R i).H (R i).P ∧ 1 ≤ (R i).W ∧ 1 ≤ (R i).H ∧ (R i).W * (R i).H ≤ 1048576) := fun i hi w' f => by
          have h := (HB9.out.kept f).l.at_ i hi
          obtain ⟨e1, e2, e3⟩ := HAG9.out i hi
          rw [e1, e2, e3] at h
          exact ⟨h, (HB9.out.kept f).r.at_ i hi, h.wpos, h.hpos, h.area⟩
        have HQ1 : Hid (∀ w', Fr (fun _ => False) wc w' → Calls Tryd.prog 19 #[.pointer (some ⟨(M t).b, 0, none⟩), .agg #[.int .i64 ((R t).W : Int), .int .i64 ((R t).H : Int), .slice (some ⟨(R t).g, 0, none⟩) ((R t).H * stride (R t).W) (R t).cap]] w' fun e w'' => e = .returned (.bool true) ∧ Fr (fun _ => False) w' w'') := fun w' f => by
          have h := HMR.out t ht w' f
          exact same_true _ _ _ _ _ _ _ _ w' h.1 h.2.1
        have HQ2 : Hid (∀ w', Fr (fun _ => False) wc w' → Calls Tryd.prog 19 #[.pointer (some ⟨(M s).b, 0, none⟩), .agg #[.int .i64 ((R s).W : Int), .int .i64 ((R s).H : Int), .slice (some ⟨(R s).g, 0, none⟩) ((R s).H * stride (R s).W) (R s).cap]] w' fun e w'' => e = .returned (.bool true) ∧ Fr (fun _ => False) w' w'') := fun w' f => by
          have h := HMR.out s hs w' f
          exact same_true _ _ _ _ _ _ _ _ w' h.1 h.2.1
        have HQ3 : Hid (∀ w', Fr (fun _ => False) wc w' → Calls Tryd.prog 20 #[.pointer (some ⟨(M t).b, 0, none⟩), .int .i64 N0, .int .i64 N1] w' fun e w'' => e = .returned (.int .i64 ((getPix (R t).W (R t).H (R t).P N0 N1).toNat : Nat)) ∧ Fr (fun _ => False) w' w'') := fun w' f => get_any _ _ _ _ _ _ N0 N1 w' (HMR.out t ht w' f).1
        have HQ4 : Hid (∀ w', Fr (fun _ => False) wc w' → Calls Tryd.prog 21 #[.agg #[.int .i64 ((R t).W : Int), .int .i64 ((R t).H : Int), .slice (some ⟨(R t).g, 0, none⟩) ((R t).H * stride (R t).W) (R t).cap], .int .i64 N0, .int .i64 N1] w' fun e w'' => e = .returned (.int .i64 ((getPix (R t).W (R t).H (R t).P N0 N1).toNat : Nat)) ∧ Fr (fun _ => False) w' w'') := fun w' f => by
          have h := HMR.out t ht w' f
          exact zget_any _ _ _ _ N0 N1 w' (h.2.1.seen h.1.words_le) h.2.2.1 h.2.2.2.1 h.2.2.2.2
        have HQ5 : Hid (∀ w', Fr (fun _ => False) wc w' → Calls Tryd.prog 22 #[.pointer (some ⟨(M t).b, 0, none⟩)] w' fun e w'' => e = .returned (.int .i64 ((cnt (R t).W (R t).H (R t).P : Nat) : Int)) ∧ Fr (fun _ => False) w' w'') := fun w' f => cnt_any _ _ _ _ _ _ w' (HMR.out t ht w' f).1
        have HQ6 : Hid (∀ w', Fr (fun _ => False) wc w' → Calls Tryd.prog 23 #[.agg #[.int .i64 ((R t).W : Int), .int .i64 ((R t).H : Int), .slice (some ⟨(R t).g, 0, none⟩) ((R t).H * stride (R t).W) (R t).cap]] w' fun e w'' => e = .returned (.int .i64 ((cnt (R t).W (R t).H (R t).P : Nat) : Int)) ∧ Fr (fun _ => False) w' w'') := fun w' f => by
          have h := HMR.out t ht w' f
          exact zcount_any _ _ _ _ w' (h.2.1.seen h.1.words_le) h.2.2.1 h.2.2.2.1 h.2.2.2.2
        have HK9 : Hid (∀ w', Fr (fun _ => False) wc w' → w'.cell? ⟨lb, t, none⟩ = some (.pointer (some ⟨(M t).b, 0, none⟩)) ∧ w'.cell? ⟨lb, s, none⟩ = some (.pointer (some ⟨(M s).b, 0, none⟩)) ∧ (w'.cell? ⟨rb, t * 3, none⟩ = some (.int .i64 ((R t).W : Int)) ∧ w'.cell? ⟨rb, t * 3 + 1, none⟩ = some (.int .i64 ((R t).H : Int)) ∧ w'.cell? ⟨rb, t * 3 + 2, none⟩ = some (.slice (some ⟨(R t).g, 0, none⟩) ((R t).H * stride (R t).W) (R t).cap)) ∧ (w'.cell? ⟨rb, s * 3, none⟩ = some (.int .i64 ((R s).W : Int)) ∧ w'.cell? ⟨rb, s * 3 + 1, none⟩ = some (.int .i64 ((R s).H : Int)) ∧ w'.cell? ⟨rb, s * 3 + 2, none⟩ = some (.slice (some ⟨(R s).g, 0, none⟩) ((R s).H * stride (R s).W) (R s).cap)) ∧ w'.cell? ⟨B + 1, 0, none⟩ = some (.int .i64 N0) ∧ w'.cell? ⟨B + 1, 1, none⟩ = some (.int .i64 N1)) := fun w' f => by
          have q := HNC.out w' (HST9.out.trans f (fun _ _ h => h.elim))
          exact ⟨HB9.out.ptr f (fun h => h) ht, HB9.out.ptr f (fun h => h) hs, HB9.out.ref f (fun h => h) ht, HB9.out.ref f (fun h => h) hs, q.1, q.2.1⟩
        generalize (getPix (R t).W (R t).H (R t).P N0 N1).toNat = pv at *
        generalize cnt (R t).W (R t).H (R t).P = cv at *
        obtain ⟨k0, k1, ⟨k2, k3, k4⟩, ⟨k5, k6, k7⟩, k8, k9⟩ := HK9.out wc (Fr.refl _ _)
        go_wp2_with fail
        go_region_held3 (fun w' => w'.cell? ⟨lb, t, none⟩ = some (.pointer (some ⟨(M t).b, 0, none⟩)) ∧ w'.cell? ⟨lb, s, none⟩ = some (.pointer (some ⟨(M s).b, 0, none⟩)) ∧ (w'.cell? ⟨rb, t * 3, none⟩ = some (.int .i64 ((R t).W : Int)) ∧ w'.cell? ⟨rb, t * 3 + 1, none⟩ = some (.int .i64 ((R t).H : Int)) ∧ w'.cell? ⟨rb, t * 3 + 2, none⟩ = some (.slice (some ⟨(R t).g, 0, none⟩) ((R t).H * stride (R t).W) (R t).cap)) ∧ (w'.cell? ⟨rb, s * 3, none⟩ = some (.int .i64 ((R s).W : Int)) ∧ w'.cell? ⟨rb, s * 3 + 1, none⟩ = some (.int .i64 ((R s).H : Int)) ∧ w'.cell? ⟨rb, s * 3 + 2, none⟩ = some (.slice (some ⟨(R s).g, 0, none⟩) ((R s).H * stride (R s).W) (R s).cap)) ∧ w'.cell? ⟨B + 1, 0, none⟩ = some (.int .i64 N0) ∧ w'.cell? ⟨B + 1, 1, none⟩ = some (.int .i64 N1)) (exact HK9.out _ (by repeat (first | with_reducible exact Fr.refl _ _ | with_reducible refine Fr.drew ?_ | with_reducible refine Fr.trans ?_ hc6 (fun _ _ hh => hh) | with_reducible refine Fr.trans ?_ hc5 (fun _ _ hh => hh) | with_reducible refine Fr.trans ?_ hc4 (fun _ _ hh => hh) | with_reducible refine Fr.trans ?_ hc3 (fun _ _ hh => hh) | with_reducible refine Fr.trans ?_ hc2 (fun _ _ hh => hh) | with_reducible refine Fr.trans ?_ hc1 (fun _ _ hh => hh)))) (first | (go_at_call 23; (have _ := hc5); refine (HQ6.out _ (by repeat (first | with_reducible exact Fr.refl _ _ | with_reducible refine Fr.drew ?_ | with_reducible refine Fr.trans ?_ hc5 (fun _ _ hh => hh) | with_reducible refine Fr.trans ?_ hc4 (fun _ _ hh => hh) | with_reducible refine Fr.trans ?_ hc3 (fun _ _ hh => hh) | with_reducible refine Fr.trans ?_ hc2 (fun _ _ hh => hh) | with_reducible refine Fr.trans ?_ hc1 (fun _ _ hh => hh)))).mono ?_; rintro e wk6 ⟨rfl, hc6⟩) | (go_at_call 22; (have _ := hc4); refine (HQ5.out _ (by repeat (first | with_reducible exact Fr.refl _ _ | with_reducible refine Fr.drew ?_ | with_reducible refine Fr.trans ?_ hc4 (fun _ _ hh => hh) | with_reducible refine Fr.trans ?_ hc3 (fun _ _ hh => hh) | with_reducible refine Fr.trans ?_ hc2 (fun _ _ hh => hh) | with_reducible refine Fr.trans ?_ hc1 (fun _ _ hh => hh)))).mono ?_; rintro e wk5 ⟨rfl, hc5⟩) | (go_at_call 21; (have _ := hc3); refine (HQ4.out _ (by repeat (first | with_reducible exact Fr.refl _ _ | with_reducible refine Fr.drew ?_ | with_reducible refine Fr.trans ?_ hc3 (fun _ _ hh => hh) | with_reducible refine Fr.trans ?_ hc2 (fun _ _ hh => hh) | with_reducible refine Fr.trans ?_ hc1 (fun _ _ hh => hh)))).mono ?_; rintro e wk4 ⟨rfl, hc4⟩) | (go_at_call 20; (have _ := hc2); refine (HQ3.out _ (by repeat (first | with_reducible exact Fr.refl _ _ | with_reducible refine Fr.drew ?_ | with_reducible refine Fr.trans ?_ hc2 (fun _ _ hh => hh) | with_reducible refine Fr.trans ?_ hc1 (fun _ _ hh => hh)))).mono ?_; rintro e wk3 ⟨rfl, hc3⟩) | (go_at_call 19; (have _ := hc1); refine (HQ2.out _ (by repeat (first | with_reducible exact Fr.refl _ _ | with_reducible refine Fr.drew ?_ | with_reducible refine Fr.trans ?_ hc1 (fun _ _ hh => hh)))).mono ?_; rintro e wk2 ⟨rfl, hc2⟩) | (go_at_call 19; refine (HQ1.out _ (by repeat (first | with_reducible exact Fr.refl _ _ | with_reducible refine Fr.drew ?_))).mono ?_; rintro e wk1 ⟨rfl, hc1⟩))
        have hf10 : Fr (fun _ => False) wc wk6 := by repeat (first | with_reducible exact Fr.refl _ _ | with_reducible refine Fr.drew ?_ | with_reducible refine Fr.trans ?_ hc6 (fun _ _ hh => hh) | with_reducible refine Fr.trans ?_ hc5 (fun _ _ hh => hh) | with_reducible refine Fr.trans ?_ hc4 (fun _ _ hh => hh) | with_reducible refine Fr.trans ?_ hc3 (fun _ _ hh => hh) | with_reducible refine Fr.trans ?_ hc2 (fun _ _ hh => hh) | with_reducible refine Fr.trans ?_ hc1 (fun _ _ hh => hh))
        have HF10 : Hid (Fr (fun _ => False) wc wk6) := hf10
        clear hf10 hc1 hc2 hc3 hc4 hc5 hc6 k0 k1 k2 k3 k4 k5 k6 k7 k8 k9
        have HFE : Hid (Fr (fun _ => False) w1 wk6) := (HF04.out.trans (HST9.out.trans HF10.out (fun _ _ h => h.elim)) (fun k hk e => by omega))
        go_wp2_with fail
        go_roundg (nb - (k + 1))
        case measure => omega
        case rel => exact ⟨k + 1, M, R, by omega, by go_num, HB9.out.kept HF10.out, HAG9.out, HFS9.out, HFE.out⟩
end Go.Proofs.YtflhbmapikdmhaaDoor
