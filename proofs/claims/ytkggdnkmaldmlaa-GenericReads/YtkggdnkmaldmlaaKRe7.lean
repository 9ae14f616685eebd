/- The law 'GenericReads'. -/
import Derived.Test.YtkggdnkmaldmlaaK43
import Derived.Test.YtkggdnkmaldmlaaKRy
import Derived.Test.YtkggdnkmaldmlaaK29
namespace Go.Proofs.Ytkggdnkmaldmlaa
open Go.RowKit

theorem cell_of_5 {w : World} {b : Nat} {x0 x1 x2 x3 x4 : Value} {t : TypeId} (h : w.heap[b]? = some (.cells #[x0, x1, x2, x3, x4] t (0, 0))) :
    w.cell? ⟨b, 0, none⟩ = some x0 ∧ w.cell? ⟨b, 1, none⟩ = some x1 ∧ w.cell? ⟨b, 2, none⟩ = some x2 ∧ w.cell? ⟨b, 3, none⟩ = some x3 ∧ w.cell? ⟨b, 4, none⟩ = some x4 := by
  refine ⟨?_, ?_, ?_, ?_, ?_⟩ <;> simp [World.cell?, h]

set_option maxRecDepth 100000 in
set_option maxHeartbeats 80000000 in
theorem reads7_any (ao : Option Addr) (n cp : Nat) (A : Nat → Rk) (w : World) (hA : ReadsAt w ao n A) :
    Calls Try.prog 4 #[.slice ao n cp] w fun e w' => e = .returned (.bool true) ∧ Fr (fun _ => False) w w' := by
  have HA : Hid (∀ w', Fr (fun _ => False) w w' → ReadsAt w' ao n A) := fun w' f => hA.kept f
  have hn := hA.len
  clear hA
  go_enter Try.func4, Try.ntmps4
  go_wp2_with fail
  go_loopw [3, 4, 5, 6, 7, 8, 9] (fun a _ _ _ _ _ _ wr => ∃ i : Nat, i ≤ 6 ∧ a = .int .i64 i ∧ Fr (fun _ => False) w wr) (fun a _ _ _ _ _ _ _ => 6 - (intOf a).toNat)
  case atStart => exact ⟨0, by omega, rfl, Fr.refl _ _⟩
  case round =>
    obtain ⟨i, hi, rfl, hfr⟩ := hrel
    have HFr : Hid (Fr (fun _ => False) w wr) := hfr
    clear hfr
    by_cases hin : i < n
    · by_cases hi6 : i < 6
      · have hdn : decide ((i : Int) < (n : Int)) = true := decide_eq_true (by omega)
        have hd6 : decide ((i : Int) < 6) = true := decide_eq_true (by omega)
        obtain ⟨b, off, hao, hcl⟩ := (HA.out wr HFr.out).cells (by omega)
        subst hao
        obtain ⟨c0, c1, c2, c3, c4⟩ := hcl i hin
        have hok := (HA.out wr HFr.out).ok i hin
        clear hcl
        obtain ⟨a, Ha⟩ : ∃ a, Hid (a = A i) := ⟨_, rfl⟩
        rw [← Ha.out] at c0 c1 c2 c3 c4 hok
        obtain ⟨fv, B, x, y, ti, sk⟩ := a
        simp only [] at c0 c1 c2 c3 c4
        have HOk : Hid (∀ w', Fr (fun _ => False) wr w' → RkOK w' ⟨fv, B, x, y, ti, sk⟩) := fun w' f => hok.kept f
        obtain ⟨fa, fc, hff, -, -⟩ := hok.hf
        obtain ⟨nf, HNf⟩ : ∃ nf, Hid (nf = B.length) := ⟨_, rfl⟩
        simp only [] at hff
        rw [← HNf.out] at hff
        subst hff
        have hbx := hok.hx
        have hby := hok.hy
        simp only [] at hbx hby
        have HSz : Hid (∀ w', Calls Try.prog 16 #[.int .i64 x, .int .i64 y] w' fun e w'' => e = .returned (.bool (sizeOK x y)) ∧ w'' = w') := fun w' => zSize_any x y w' hbx hby
        have HLe : Hid (∀ w', Fr (fun _ => False) wr w' → Calls Try.prog 17 #[.slice fa nf fc] w' fun e w'' => ∃ g, e = .returned (.slice (some ⟨g, 0, none⟩) nf (nf + 7)) ∧ LentY w'' g B ∧ w'.heap.size ≤ g ∧ Fr (fun _ => False) w' w'') := fun w' f => by
          have h := HOk.out w' f
          have h2 := lendY_any _ B w' h.hl h.hf h.hn
          rw [← HNf.out] at h2
          exact h2
        have HDe : Hid (∀ (w' : World) (g : Nat), (sizeOK x y = true → x * y ≤ 6000) → Fr (fun _ => False) wr w' → LentY w' g B → Calls Try.prog 18 #[.slice (some ⟨g, 0, none⟩) nf (nf + 7), .int .i64 x, .int .i64 y, .int .i64 ti, .bool sk] w' fun e w'' => ∃ vf, e = .returned (.tuple #[.agg #[.int .i64 (decN x y ti x), .int .i64 (decN x y ti y), vf], .int .i64 (decE x y ti)]) ∧ Seen w'' vf (rdL B x y ti sk) ∧ (∀ k, vf.ownBlock = some k → w'.heap.size ≤ k) ∧ Fr (fun _ => False) w' w'') := fun w' g h6 f hl => by
          have h := HOk.out w' f
          have s1 := hl.seen h.hl
          rw [HNf.out]
          exact gdecode_all _ B x y ti sk w' s1 (Or.inr ⟨_, _, _, rfl⟩) h.hB h.hx h.hy h6
        have HRe : Hid (∀ (w' : World), (sizeOK x y = true → x * y ≤ 6000) → Fr (fun _ => False) wr w' → Calls Try.prog 19 #[.slice fa nf fc, .int .i64 x, .int .i64 y, .int .i64 ti, .bool sk] w' fun e w'' => ∃ vf, e = .returned (.tuple #[.agg #[.int .i64 (decN x y ti x), .int .i64 (decN x y ti y), vf], .int .i64 (decE x y ti)]) ∧ Seen w'' vf (rdL B x y ti sk) ∧ (∀ k, vf.ownBlock = some k → w'.heap.size ≤ k) ∧ Fr (fun _ => False) w' w'') := fun w' h6 f => by
          have h := HOk.out w' f
          exact rgdecode_all _ B x y ti sk w' h.hf h.hnil h.hB h.hx h.hy h6
        have HBk : Hid (∀ (w' : World) (g : Nat), Fr (fun _ => False) wr w' → LentY w' g B → Calls Try.prog 20 #[.slice (some ⟨g, 0, none⟩) nf (nf + 7), .slice fa nf fc] w' fun e w'' => e = .returned (.bool true) ∧ Fr (fun k => k = g) w' w'') := fun w' g f hl => by
          have h := HOk.out w' f
          have h2 := backY_any g _ B w' h.hl hl h.hf
          rw [← HNf.out] at h2
          exact h2
        have HPB : Hid (∀ w', Fr (fun _ => False) (wr.alloc (.cells #[.slice fa nf fc, .int .i64 x, .int .i64 y, .int .i64 ti, .bool sk] 40)) w' → w'.heap[wr.heap.size]? = some (.cells #[.slice fa nf fc, .int .i64 x, .int .i64 y, .int .i64 ti, .bool sk] 40 (0, 0))) := fun w' f => blkOld f (heap_alloc_new wr _)
        have HF0 : Hid (Fr (fun _ => False) wr (wr.alloc (.cells #[.slice fa nf fc, .int .i64 x, .int .i64 y, .int .i64 ti, .bool sk] 40))) := (Fr.refl _ _).alloc _
        obtain ⟨X, HX⟩ : ∃ X, Hid (X = decN x y ti x) := ⟨_, rfl⟩
        obtain ⟨Y, HY⟩ : ∃ Y, Hid (Y = decN x y ti y) := ⟨_, rfl⟩
        obtain ⟨er, HER⟩ : ∃ er, Hid (er = decE x y ti) := ⟨_, rfl⟩
        obtain ⟨L, HL⟩ : ∃ L, Hid (L = rdL B x y ti sk) := ⟨_, rfl⟩
        rw [← HX.out, ← HY.out, ← HER.out, ← HL.out] at HDe HRe
        clear hbx hby
        simp only [Nat.add_zero] at c0
        go_wp2_with fail
        clear c0 c1 c2 c3 c4
        generalize (wr.alloc (.cells #[.slice fa nf fc, .int .i64 x, .int .i64 y, .int .i64 ti, .bool sk] 40)) = w0 at *
        have HC : Hid (∀ w' (T : Nat → Prop), Fr T w0 w' → (∀ k, k ≤ wr.heap.size → ¬ T k) → w'.cell? ⟨wr.heap.size, 0, none⟩ = some (.slice fa nf fc) ∧ w'.cell? ⟨wr.heap.size, 1, none⟩ = some (.int .i64 x) ∧ w'.cell? ⟨wr.heap.size, 2, none⟩ = some (.int .i64 y) ∧ w'.cell? ⟨wr.heap.size, 3, none⟩ = some (.int .i64 ti) ∧ w'.cell? ⟨wr.heap.size, 4, none⟩ = some (.bool sk)) := fun w' T f hT => by
          have hb := HPB.out w0 (Fr.refl _ _)
          exact cell_of_5 ((f.block _ (lt_of_block hb) (hT _ (Nat.le_refl _))).trans hb)
        have HW0 : Hid (wr.heap.size < w0.heap.size) := lt_of_block (HPB.out w0 (Fr.refl _ _))
        refine (HSz.out _).mono ?_
        rintro e w1 ⟨rfl, rfl⟩
        obtain ⟨c0, c1, c2, c3, c4⟩ := HC.out w1 _ (Fr.refl (fun _ => False) _) (fun _ _ h => h)
        cases hsz : sizeOK x y
        · have H6 : Hid (sizeOK x y = true → x * y ≤ 6000) := fun h => absurd (hsz.symm.trans h) (by decide)
          go_wp2_with fail
          refine (HLe.out _ HF0.out).mono ?_
          rintro e w3 ⟨g, rfl, hl3, hg3, hf3⟩
          have HF3 : Hid (Fr (fun _ => False) w1 w3) := hf3
          have HL3 : Hid (LentY w3 g B) := hl3
          have HG3 : Hid (w1.heap.size ≤ g) := hg3
          clear hl3 hg3 hf3 c0 c1 c2 c3 c4
          obtain ⟨c0, c1, c2, c3, c4⟩ := HC.out w3 _ HF3.out (fun _ _ h => h)
          go_wp2_with fail
          refine (HDe.out _ g H6.out (HF0.out.trans HF3.out (fun _ _ h => h)) HL3.out).mono ?_
          rintro e w4 ⟨vf, rfl, hs4, ho4, hf4⟩
          obtain ⟨nL, HNL⟩ : ∃ nL, Hid (nL = L.length) := ⟨_, rfl⟩
          have hs4' := hs4
          obtain ⟨fo, fq, hvf, -, -⟩ := hs4'
          rw [← HNL.out] at hvf
          subst hvf
          have HF4 : Hid (Fr (fun _ => False) w1 (w4.alloc (.cells #[.int .i64 X, .int .i64 Y, .slice fo nL fq] 26))) := (HF3.out.trans hf4 (fun _ _ h => h)).alloc _
          have HL4 : Hid (LentY (w4.alloc (.cells #[.int .i64 X, .int .i64 Y, .slice fo nL fq] 26)) g B) := HL3.out.kept (hf4.alloc _) (fun h => h)
          have HB4 : Hid ((w4.alloc (.cells #[.int .i64 X, .int .i64 Y, .slice fo nL fq] 26)).heap[w4.heap.size]? = some (.cells #[.int .i64 X, .int .i64 Y, .slice fo nL fq] 26 (0, 0))) := heap_alloc_new w4 _
          have HS4 : Hid (Seen (w4.alloc (.cells #[.int .i64 X, .int .i64 Y, .slice fo nL fq] 26)) (.slice fo nL fq) L ∧ (∀ k, (Value.slice fo nL fq).ownBlock = some k → k ≠ g) ∧ g < w4.heap.size) := ⟨hs4.keptB ((Fr.refl (fun _ => False) w4).alloc _) (fun _ _ h => h), fun k hk e => by have := ho4 k hk; have := HL3.out.lt; omega, by have := HL3.out.lt; have := hf4.size; omega⟩
          clear hs4 ho4 hf4 c0 c1 c2 c3 c4
          obtain ⟨c0, c1, c2, c3, c4⟩ := HC.out (w4.alloc (.cells #[.int .i64 X, .int .i64 Y, .slice fo nL fq] 26)) _ HF4.out (fun _ _ h => h)
          go_wp2_with fail
          generalize (w4.alloc (.cells #[.int .i64 X, .int .i64 Y, .slice fo nL fq] 26)) = wB at *
          refine (HRe.out _ H6.out (HF0.out.trans HF4.out (fun _ _ h => h))).mono ?_
          rintro e w5 ⟨vq, rfl, hs5, ho5, hf5⟩
          have hs5' := hs5
          obtain ⟨go, gq, hvq, -, -⟩ := hs5'
          rw [← HNL.out] at hvq
          subst hvq
          have HBC : Hid (Fr (fun _ => False) wB (w5.alloc (.cells #[.int .i64 X, .int .i64 Y, .slice go nL gq] 26))) := hf5.alloc _
          have HB5 : Hid ((w5.alloc (.cells #[.int .i64 X, .int .i64 Y, .slice go nL gq] 26)).heap[w5.heap.size]? = some (.cells #[.int .i64 X, .int .i64 Y, .slice go nL gq] 26 (0, 0))) := heap_alloc_new w5 _
          have HS5 : Hid (Seen (w5.alloc (.cells #[.int .i64 X, .int .i64 Y, .slice go nL gq] 26)) (.slice go nL gq) L ∧ (∀ k, (Value.slice go nL gq).ownBlock = some k → k ≠ g) ∧ g < w5.heap.size) := ⟨hs5.keptB ((Fr.refl (fun _ => False) w5).alloc _) (fun _ _ h => h), fun k hk e => by have := ho5 k hk; have := HL4.out.lt; omega, by have := HL4.out.lt; have := hf5.size; omega⟩
          clear hs5 ho5 hf5 c0 c1 c2 c3 c4
          obtain ⟨c0, c1, c2, c3, c4⟩ := HC.out (w5.alloc (.cells #[.int .i64 X, .int .i64 Y, .slice go nL gq] 26)) _ (HF4.out.trans HBC.out (fun _ _ h => h)) (fun _ _ h => h)
          go_wp2_with fail
          generalize (w5.alloc (.cells #[.int .i64 X, .int .i64 Y, .slice go nL gq] 26)) = wC at *
          refine (HBk.out _ g (HF0.out.trans (HF4.out.trans HBC.out (fun _ _ h => h)) (fun _ _ h => h)) (HL4.out.kept HBC.out (fun h => h))).mono ?_
          rintro e w6 ⟨rfl, hf6⟩
          have HFw6 : Hid (Fr (fun k => k = g) w1 w6) := ((HF4.out.trans HBC.out (fun _ _ h => h)).mono (fun _ _ h => h.elim)).trans hf6 (fun _ _ h => h)
          have HEq : Hid (Calls Try.prog 21 #[.agg #[.int .i64 X, .int .i64 Y, .slice fo nL fq], .agg #[.int .i64 X, .int .i64 Y, .slice go nL gq]] w6 fun e w'' => e = .returned (.bool true) ∧ Fr (fun _ => False) w6 w'') := eqBitmap_int X Y _ _ L w6 ((HS4.out.1.keptB HBC.out (fun _ _ h => h)).keptB hf6 (fun k hk => HS4.out.2.1 k hk)) (HS5.out.1.keptB hf6 (fun k hk => HS5.out.2.1 k hk))
          obtain ⟨p0, p1, p2, pf⟩ := cell_of_three ((hf6.block _ (lt_of_block (blkOld HBC.out HB4.out)) (by have := HS4.out.2.2; omega)).trans (blkOld HBC.out HB4.out))
          obtain ⟨q0, q1, q2, qf⟩ := cell_of_three ((hf6.block _ (lt_of_block HB5.out) (by have := HS5.out.2.2; omega)).trans HB5.out)
          clear hf6 pf qf c0 c1 c2 c3 c4
          have hee : (er != er) = false := by simp
          go_wp2_with fail
          refine HEq.out.mono ?_
          rintro e w7 ⟨rfl, hf7⟩
          have HF7 : Hid (Fr (fun _ => False) w w7) := (HFr.out.trans (Fr.trans (T := fun k => k = g) HF0.out HFw6.out (fun i hi e => by have := HG3.out; have := HW0.out; omega)) (fun _ _ h => h)).trans hf7 (fun _ _ h => h)
          clear hf7 p0 p1 p2 q0 q1 q2
          go_wp2_with fail
          exact ⟨⟨i + 1, by omega, by rw [Int.natCast_add]; rfl, HF7.out⟩, by simp only [intOf]; omega⟩
        · have hm1 : IntKind.i64.wrap (x * y) = x * y := by
            unfold sizeOK at hsz
            have h3 := of_decide_eq_true hsz
            have : 0 ≤ x * y := Int.mul_nonneg (by omega) (by omega)
            rw [IntKind.wrap_i64]; omega
          by_cases hbig : (6000 < x * y) ∨ (1000 < y)
          · by_cases hb1 : 6000 < x * y
            · have hd1 : decide (6000 < x * y) = true := decide_eq_true hb1
              go_wp2_with fail
              exact ⟨⟨i + 1, by omega, by rw [Int.natCast_add]; rfl, HFr.out.trans HF0.out (fun _ _ h => h)⟩, by simp only [intOf]; omega⟩
            · have hd1 : decide (6000 < x * y) = false := decide_eq_false hb1
              have hd2 : decide (1000 < y) = true := decide_eq_true (by omega)
              go_wp2_with fail
              exact ⟨⟨i + 1, by omega, by rw [Int.natCast_add]; rfl, HFr.out.trans HF0.out (fun _ _ h => h)⟩, by simp only [intOf]; omega⟩
          · have hd1 : decide (6000 < x * y) = false := decide_eq_false (by omega)
            have hd2 : decide (1000 < y) = false := decide_eq_false (by omega)
            have H6 : Hid (sizeOK x y = true → x * y ≤ 6000) := fun _ => by omega
            go_wp2_with fail
            refine (HLe.out _ HF0.out).mono ?_
            rintro e w3 ⟨g, rfl, hl3, hg3, hf3⟩
            have HF3 : Hid (Fr (fun _ => False) w1 w3) := hf3
            have HL3 : Hid (LentY w3 g B) := hl3
            have HG3 : Hid (w1.heap.size ≤ g) := hg3
            clear hl3 hg3 hf3 c0 c1 c2 c3 c4
            obtain ⟨c0, c1, c2, c3, c4⟩ := HC.out w3 _ HF3.out (fun _ _ h => h)
            go_wp2_with fail
            refine (HDe.out _ g H6.out (HF0.out.trans HF3.out (fun _ _ h => h)) HL3.out).mono ?_
            rintro e w4 ⟨vf, rfl, hs4, ho4, hf4⟩
            obtain ⟨nL, HNL⟩ : ∃ nL, Hid (nL = L.length) := ⟨_, rfl⟩
            have hs4' := hs4
            obtain ⟨fo, fq, hvf, -, -⟩ := hs4'
            rw [← HNL.out] at hvf
            subst hvf
            have HF4 : Hid (Fr (fun _ => False) w1 (w4.alloc (.cells #[.int .i64 X, .int .i64 Y, .slice fo nL fq] 26))) := (HF3.out.trans hf4 (fun _ _ h => h)).alloc _
            have HL4 : Hid (LentY (w4.alloc (.cells #[.int .i64 X, .int .i64 Y, .slice fo nL fq] 26)) g B) := HL3.out.kept (hf4.alloc _) (fun h => h)
            have HB4 : Hid ((w4.alloc (.cells #[.int .i64 X, .int .i64 Y, .slice fo nL fq] 26)).heap[w4.heap.size]? = some (.cells #[.int .i64 X, .int .i64 Y, .slice fo nL fq] 26 (0, 0))) := heap_alloc_new w4 _
            have HS4 : Hid (Seen (w4.alloc (.cells #[.int .i64 X, .int .i64 Y, .slice fo nL fq] 26)) (.slice fo nL fq) L ∧ (∀ k, (Value.slice fo nL fq).ownBlock = some k → k ≠ g) ∧ g < w4.heap.size) := ⟨hs4.keptB ((Fr.refl (fun _ => False) w4).alloc _) (fun _ _ h => h), fun k hk e => by have := ho4 k hk; have := HL3.out.lt; omega, by have := HL3.out.lt; have := hf4.size; omega⟩
            clear hs4 ho4 hf4 c0 c1 c2 c3 c4
            obtain ⟨c0, c1, c2, c3, c4⟩ := HC.out (w4.alloc (.cells #[.int .i64 X, .int .i64 Y, .slice fo nL fq] 26)) _ HF4.out (fun _ _ h => h)
            go_wp2_with fail
            generalize (w4.alloc (.cells #[.int .i64 X, .int .i64 Y, .slice fo nL fq] 26)) = wB at *
            refine (HRe.out _ H6.out (HF0.out.trans HF4.out (fun _ _ h => h))).mono ?_
            rintro e w5 ⟨vq, rfl, hs5, ho5, hf5⟩
            have hs5' := hs5
            obtain ⟨go, gq, hvq, -, -⟩ := hs5'
            rw [← HNL.out] at hvq
            subst hvq
            have HBC : Hid (Fr (fun _ => False) wB (w5.alloc (.cells #[.int .i64 X, .int .i64 Y, .slice go nL gq] 26))) := hf5.alloc _
            have HB5 : Hid ((w5.alloc (.cells #[.int .i64 X, .int .i64 Y, .slice go nL gq] 26)).heap[w5.heap.size]? = some (.cells #[.int .i64 X, .int .i64 Y, .slice go nL gq] 26 (0, 0))) := heap_alloc_new w5 _
            have HS5 : Hid (Seen (w5.alloc (.cells #[.int .i64 X, .int .i64 Y, .slice go nL gq] 26)) (.slice go nL gq) L ∧ (∀ k, (Value.slice go nL gq).ownBlock = some k → k ≠ g) ∧ g < w5.heap.size) := ⟨hs5.keptB ((Fr.refl (fun _ => False) w5).alloc _) (fun _ _ h => h), fun k hk e => by have := ho5 k hk; have := HL4.out.lt; omega, by have := HL4.out.lt; have := hf5.size; omega⟩
            clear hs5 ho5 hf5 c0 c1 c2 c3 c4
            obtain ⟨c0, c1, c2, c3, c4⟩ := HC.out (w5.alloc (.cells #[.int .i64 X, .int .i64 Y, .slice go nL gq] 26)) _ (HF4.out.trans HBC.out (fun _ _ h => h)) (fun _ _ h => h)
            go_wp2_with fail
            generalize (w5.alloc (.cells #[.int .i64 X, .int .i64 Y, .slice go nL gq] 26)) = wC at *
            refine (HBk.out _ g (HF0.out.trans (HF4.out.trans HBC.out (fun _ _ h => h)) (fun _ _ h => h)) (HL4.out.kept HBC.out (fun h => h))).mono ?_
            rintro e w6 ⟨rfl, hf6⟩
            have HFw6 : Hid (Fr (fun k => k = g) w1 w6) := ((HF4.out.trans HBC.out (fun _ _ h => h)).mono (fun _ _ h => h.elim)).trans hf6 (fun _ _ h => h)
            have HEq : Hid (Calls Try.prog 21 #[.agg #[.int .i64 X, .int .i64 Y, .slice fo nL fq], .agg #[.int .i64 X, .int .i64 Y, .slice go nL gq]] w6 fun e w'' => e = .returned (.bool true) ∧ Fr (fun _ => False) w6 w'') := eqBitmap_int X Y _ _ L w6 ((HS4.out.1.keptB HBC.out (fun _ _ h => h)).keptB hf6 (fun k hk => HS4.out.2.1 k hk)) (HS5.out.1.keptB hf6 (fun k hk => HS5.out.2.1 k hk))
            obtain ⟨p0, p1, p2, pf⟩ := cell_of_three ((hf6.block _ (lt_of_block (blkOld HBC.out HB4.out)) (by have := HS4.out.2.2; omega)).trans (blkOld HBC.out HB4.out))
            obtain ⟨q0, q1, q2, qf⟩ := cell_of_three ((hf6.block _ (lt_of_block HB5.out) (by have := HS5.out.2.2; omega)).trans HB5.out)
            clear hf6 pf qf c0 c1 c2 c3 c4
            have hee : (er != er) = false := by simp
            go_wp2_with fail
            refine HEq.out.mono ?_
            rintro e w7 ⟨rfl, hf7⟩
            have HF7 : Hid (Fr (fun _ => False) w w7) := (HFr.out.trans (Fr.trans (T := fun k => k = g) HF0.out HFw6.out (fun i hi e => by have := HG3.out; have := HW0.out; omega)) (fun _ _ h => h)).trans hf7 (fun _ _ h => h)
            clear hf7 p0 p1 p2 q0 q1 q2
            go_wp2_with fail
            exact ⟨⟨i + 1, by omega, by rw [Int.natCast_add]; rfl, HF7.out⟩, by simp only [intOf]; omega⟩
      · have hdn : decide ((i : Int) < (n : Int)) = true := decide_eq_true (by omega)
        have hd6 : decide ((i : Int) < 6) = false := decide_eq_false (by omega)
        go_wp2_with fail
        refine (wakes7 _).mono ?_
        rintro e w9 ⟨rfl, hf9⟩
        have HF9 : Hid (Fr (fun _ => False) w w9) := HFr.out.trans hf9 (fun _ _ h => h)
        clear hf9
        go_wp2_with fail
        go_ret
        exact ⟨rfl, HF9.out⟩
    · have hdn : decide ((i : Int) < (n : Int)) = false := decide_eq_false (by omega)
      go_wp2_with fail
      refine (wakes7 _).mono ?_
      rintro e w9 ⟨rfl, hf9⟩
      have HF9 : Hid (Fr (fun _ => False) w w9) := HFr.out.trans hf9 (fun _ _ h => h)
      clear hf9
      go_wp2_with fail
      go_ret
      exact ⟨rfl, HF9.out⟩

end Go.Proofs.Ytkggdnkmaldmlaa
