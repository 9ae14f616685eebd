/- 'wakes'. -/
import Derived.Test.YtpblenebmjmijaaDh
namespace Go.Proofs.Ytpblenebmjmijaa
set_option maxRecDepth 100000
open Go.RowKit

set_option maxHeartbeats 4000000 in
theorem wakes_any (w : World) :
    Calls Try.prog 14 #[] w fun e w' => e = .returned (.bool true) ∧ Fr (fun _ => False) w w' := by
  go_enter Try.func14, Try.ntmps14
  go_wp2_with fail
  refine (docNew_any _).mono ?_
  rintro e w1 ⟨rfl, hw1⟩
  have HD1 : Hid (DocAt w1 w.heap.size w.heap.size (.slice none 0 0) (.slice none 0 0) [] []) := by rw [hw1]; exact DocAt.new w
  have HF1 : Hid (Fr (fun _ => False) w w1) := by rw [hw1]; exact (Fr.refl _ _).alloc _
  clear hw1
  obtain ⟨d, HDD⟩ : ∃ d, Hid (d = w.heap.size) := ⟨_, rfl⟩
  rw [← HDD.out] at HD1 ⊢
  go_wp2_with fail
  refine (newPage_yes d d 3 2 _ _ [] [] _ HD1.out (by decide) (by decide) (by decide) (by decide) (by decide)).mono ?_
  rintro e w2 ⟨rfl, pv2, sv2, bx, b, g, hd2, hx2, hm2, hf2, hbx, hb, hg, ho1, ho2⟩
  have HD2 : Hid (DocAt w2 d d pv2 sv2 ([] ++ [.pointer (some ⟨b, 0, none⟩)]) ([] ++ [.func (.func 19) #[] #[.pointer (some ⟨bx, 0, none⟩)]])) := hd2
  have HX2 : Hid (w2.heap[bx]? = some (.cells #[.pointer (some ⟨d, 0, none⟩)] 25 (0, 0))) := hx2
  have HM2 : Hid (MapAt w2 b g (2 * stride 3) 3 2 (fun _ _ => false)) := hm2
  have HS1 : Hid (w.heap.size ≤ w1.heap.size) := HF1.out.size
  have HF2 : Hid (Fr (fun k => w.heap.size ≤ k) w1 w2) := hf2.mono (fun k _ h => h.elim (fun h => by rw [h, HDD.out]; exact Nat.le_refl _) (fun h => by simp [Value.ownBlock] at h))
  have HG : Hid (w.heap.size ≤ g) := Nat.le_trans HS1.out hg
  have HO2 : Hid (∀ k, sv2.ownBlock = some k → w.heap.size ≤ k) := fun k hk => (ho2 k hk).elim (fun h => by simp [Value.ownBlock] at h) (fun h => Nat.le_trans HS1.out h)
  have HP2 : Hid (∀ k, pv2.ownBlock = some k → w.heap.size ≤ k) := fun k hk => (ho1 k hk).elim (fun h => by simp [Value.ownBlock] at h) (fun h => Nat.le_trans HS1.out h)
  clear hd2 hx2 hm2 hf2 hbx hb hg ho1 ho2
  go_wp2_with fail
  refine (docSet_in d d b g _ 3 2 0 1 0 1 _ pv2 sv2 _ _ _ HD2.out HM2.out rfl (by simp) (by simp) (by decide) (by decide) (by decide)).mono ?_
  rintro e w3 ⟨rfl, sv3, s, hd3, hp3, hm3, hf3, hs3, ho3⟩
  have HS2 : Hid (w.heap.size ≤ w2.heap.size) := Nat.le_trans HS1.out HF2.out.size
  have HB2 : Hid (bx ≠ d ∧ sv2.ownBlock ≠ some bx ∧ bx ≠ g) := ⟨by rintro rfl; have := HX2.out.symm.trans HD2.out.blk; simp at this, row_ne HD2.out.st HX2.out (by decide), fun e => row_ne HM2.out.own HX2.out (by decide) (by rw [e]; rfl)⟩
  have HX3 : Hid (w3.heap[bx]? = some (.cells #[.pointer (some ⟨d, 0, none⟩)] 25 (0, 0))) := by
    show _ = _
    rw [hf3.block bx (lt_of_block HX2.out) (fun e => e.elim HB2.out.1 (fun e => e.elim HB2.out.2.1 HB2.out.2.2))]
    exact HX2.out
  have HD3 : Hid (DocAt w3 d d pv2 sv3 ([] ++ [.pointer (some ⟨b, 0, none⟩)]) (([] ++ [.func (.func 19) #[] #[.pointer (some ⟨bx, 0, none⟩)]]) ++ [.func (.func 40) #[] (pixCaps s)])) := hd3
  have HPX3 : Hid (PixAt w3 s b 1 0 0) := hp3
  have HM3 : Hid (MapAt w3 b g (2 * stride 3) 3 2 (laidAll (fun _ _ => false) 0 1 1 fun _ => true)) := hm3
  have HF3 : Hid (Fr (fun k => w.heap.size ≤ k) w2 w3) := hf3.mono (fun k _ h => h.elim (fun h => by rw [h, HDD.out]; exact Nat.le_refl _) (fun h => h.elim (HO2.out k) (fun h => by rw [h]; exact HG.out)))
  have HO3 : Hid (∀ k, sv3.ownBlock = some k → w.heap.size ≤ k) := fun k hk => (ho3 k hk).elim (HO2.out k) (fun h => Nat.le_trans HS2.out h)
  clear hd3 hp3 hm3 hf3 hs3 ho3
  go_wp2_with fail
  refine (docPage_in d d b g _ 3 2 0 _ pv2 sv3 _ _ _ HD3.out HM3.out rfl (by simp)).mono ?_
  rintro e w4 ⟨g2, cap2, rfl, ho4, hf4, hg4⟩
  have HRW : Hid (w4.ownsRow 0 32 1 (.slice (some ⟨g2, 0, none⟩) (2 * stride 3) cap2) (2 * stride 3) (wordCells (render 3 2 (laidAll (fun _ _ => false) 0 1 1 fun _ => true)))) := ho4
  have HF4 : Hid (Fr (fun _ => False) w3 w4) := hf4
  have HST : stride 3 = 1 := rfl
  have HRE : Hid (render 3 2 (laidAll (fun _ _ => false) 0 1 1 fun _ => true) = [4611686018427387904, 0]) := by show _ = _; decide +kernel
  clear ho4 hf4 hg4
  go_wp2_with fail
  obtain ⟨w5, HW5⟩ : ∃ w5, Hid (w5 = (w4.alloc (.cells #[.int .i64 3, .int .i64 2, .slice (some ⟨g2, 0, none⟩) 2 cap2] 54)).alloc (.cells #[.int .u64 4611686018427387904, .int .u64 0] 32)) := ⟨_, rfl⟩
  rw [← HW5.out]
  have HF5 : Hid (Fr (fun _ => False) w4 w5) := by rw [HW5.out]; exact (((Fr.refl _ _).alloc _).alloc _)
  have HSA : Hid (Seen w5 (.slice (some ⟨g2, 0, none⟩) 2 cap2) [4611686018427387904, 0]) := by
    have h := row_kept HRW.out HF5.out (fun _ _ h => h)
    rw [HRE.out, show stride 3 = 1 from rfl] at h
    exact Seen.of_row (l := [4611686018427387904, 0]) h (by decide)
  have HSB : Hid (Seen w5 (.slice (some ⟨w4.heap.size + 1, 0, none⟩) 2 2) [4611686018427387904, 0]) := by
    refine ⟨_, _, rfl, by decide, fun _ => ⟨_, 0, rfl, fun j hj => ?_⟩⟩
    have hb := heap_alloc2_new w4 (.cells #[.int .i64 3, .int .i64 2, .slice (some ⟨g2, 0, none⟩) 2 cap2] 54) (.cells #[.int .u64 4611686018427387904, .int .u64 0] 32)
    rw [← HW5.out] at hb
    match j, hj with
    | 0, _ => simp [World.cell?, hb]
    | 1, _ => simp [World.cell?, hb]
  refine (eqBitmap_same 3 2 _ _ _ _ HSA.out HSB.out).mono ?_
  rintro e w6 ⟨rfl, hf6⟩
  have HF6 : Hid (Fr (fun _ => False) w3 w6) := (HF4.out.trans HF5.out (fun _ _ h => h)).trans hf6 (fun _ _ h => h)
  have HD6 : Hid (DocAt w6 d d pv2 sv3 ([] ++ [.pointer (some ⟨b, 0, none⟩)]) (([] ++ [.func (.func 19) #[] #[.pointer (some ⟨bx, 0, none⟩)]]) ++ [.func (.func 40) #[] (pixCaps s)])) := HD3.out.kept HF6.out (fun h => h) (fun _ _ h => h) (fun _ _ h => h)
  have HM6 : Hid (MapAt w6 b g (2 * stride 3) 3 2 (laidAll (fun _ _ => false) 0 1 1 fun _ => true)) := HM3.out.kept HF6.out (fun h => h) (fun h => h)
  have HPX6 : Hid (PixAt w6 s b 1 0 0) := HPX3.out.kept HF6.out (fun _ _ h => h)
  have HX6 : Hid (w6.heap[bx]? = some (.cells #[.pointer (some ⟨d, 0, none⟩)] 25 (0, 0))) := by
    show _ = _
    rw [HF6.out.block bx (lt_of_block HX3.out) (fun h => h)]
    exact HX3.out
  have HB6 : Hid (sv3.ownBlock ≠ some bx) := row_ne HD6.out.st HX6.out (by decide)
  clear hf6
  go_wp2_with fail
  refine (undo_pixeled d d b g _ 3 2 s 1 0 0 _ pv2 sv3 _ _ _ HD6.out (by simp) HM6.out HPX6.out (by decide) (by decide) (by decide)).mono ?_
  rintro e w7 ⟨rfl, sv7, hd7, hm7, hf7, ho7⟩
  have HD7 : Hid (DocAt w7 d d pv2 sv7 ([] ++ [.pointer (some ⟨b, 0, none⟩)]) ([] ++ [.func (.func 19) #[] #[.pointer (some ⟨bx, 0, none⟩)]])) := hd7
  have HX7 : Hid (w7.heap[bx]? = some (.cells #[.pointer (some ⟨d, 0, none⟩)] 25 (0, 0))) := by
    show _ = _
    rw [hf7.block bx (lt_of_block HX6.out) (fun e => e.elim HB2.out.1 (fun e => e.elim HB6.out HB2.out.2.2))]
    exact HX6.out
  have HF7 : Hid (Fr (fun k => w.heap.size ≤ k) w6 w7) := hf7.mono (fun k _ h => h.elim (fun h => by rw [h, HDD.out]; exact Nat.le_refl _) (fun h => h.elim (HO3.out k) (fun h => by rw [h]; exact HG.out)))
  have HO7 : Hid (∀ k, sv7.ownBlock = some k → w.heap.size ≤ k) := fun k hk => HO3.out k (by rw [← ho7]; exact hk)
  clear hd7 hm7 hf7 ho7
  go_wp2_with fail
  refine (undo_paged d d bx pv2 sv7 [] [] _ _ HD7.out (by simp) HX7.out).mono ?_
  rintro e w8 ⟨rfl, pv8, sv8, hd8, hf8, ho8, ho8'⟩
  have HD8 : Hid (DocAt w8 d d pv8 sv8 [] []) := hd8
  have HF8 : Hid (Fr (fun k => w.heap.size ≤ k) w7 w8) := hf8.mono (fun k _ h => h.elim (fun h => by rw [h, HDD.out]; exact Nat.le_refl _) (fun h => h.elim (HP2.out k) (HO7.out k)))
  clear hd8 hf8 ho8 ho8'
  go_wp2_with fail
  refine (undo_none d d pv8 sv8 [] _ HD8.out).mono ?_
  rintro e w9 ⟨rfl, hf9⟩
  have HD9 : Hid (DocAt w9 d d pv8 sv8 [] []) := HD8.out.kept hf9 (fun h => h) (fun _ _ h => h) (fun _ _ h => h)
  have HF9 : Hid (Fr (fun _ => False) w8 w9) := hf9
  clear hf9
  go_wp2_with fail
  refine (pages_any d d pv8 sv8 [] [] _ HD9.out).mono ?_
  rintro e w10 ⟨rfl, rfl⟩
  go_wp2_with fail
  go_ret
  refine ⟨rfl, ?_⟩
  have t : ∀ {a c : World}, Fr (fun _ => False) a c → Fr (fun k => w.heap.size ≤ k) a c := fun h => h.mono (fun _ _ h => h.elim)
  have hh : ∀ {a c e : World}, Fr (fun k => w.heap.size ≤ k) a c → Fr (fun k => w.heap.size ≤ k) c e → Fr (fun k => w.heap.size ≤ k) a e := fun h k => h.trans k (fun _ _ h => h)
  exact (hh (t HF1.out) (hh HF2.out (hh HF3.out (hh (t HF6.out) (hh HF7.out (hh HF8.out (t HF9.out))))))).mono (fun k hk h => absurd h (by omega))
end Go.Proofs.Ytpblenebmjmijaa
