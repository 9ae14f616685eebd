/- Law 'Reads'. -/
import Derived.Test.YtpfajkkjnobdlaaDoorBr
import Derived.Test.YtpfajkkjnobdlaaDoorQe
import Derived.Test.YtpfajkkjnobdlaaDoorWk
import Derived.Test.YtpfajkkjnobdlaaDoorLe
namespace Go.Proofs.YtpfajkkjnobdlaaDoor
set_option maxRecDepth 100000
open Go.RowKit

set_option linter.unusedSimpArgs false in
set_option maxHeartbeats 4000000 in
theorem reads_any (ao : Option Addr) (n cap : Nat) (A : Nat → Yq) (w : World) (hA : YsAt w ao n A) (ht : TabAt w) :
    Calls Tryd.prog 4 #[.slice ao n cap] w fun e w' => e = .returned (.bool true) ∧ Fr (fun _ => False) w w' := by
  have HA : Hid (YsAt w ao n A) := hA
  have HT : Hid (TabAt w) := ht
  have hnl := hA.len
  clear hA ht
  go_enter Tryd.func4, Tryd.ntmps4
  go_wp2_with fail
  go_loopg [3] 12 (fun q iv wr => ∃ i : Nat, i + q = 12 ∧ i ≤ n ∧ iv = .int .i64 i ∧ Fr (fun _ => False) w wr)
  case atStart => exact ⟨0, by omega, by omega, rfl, Fr.refl _ _⟩
  case round =>
    obtain ⟨i, hiq, hin0, rfl, hf⟩ := hrel
    have HFr : Hid (Fr (fun _ => False) w wr) := hf
    clear hf
    by_cases hgo : i < n ∧ i < 12
    rotate_left
    · by_cases hin : i < n
      · have hdn : decide (i < n) = true := decide_eq_true hin
        have hdn2 : decide ((i : Int) < (n : Int)) = true := decide_eq_true (by omega)
        have hdt : decide ((i : Int) < 12) = false := decide_eq_false (by omega)
        have hdt2 : decide (i < 12) = false := decide_eq_false (by omega)
        clear hgo
        go_wp2_with fail
        refine Calls.mono (wakes_any wr (HT.out.kept HFr.out)) ?_
        rintro e w1 ⟨rfl, hf1⟩
        go_wp2_with fail
        go_ret
        exact ⟨rfl, HFr.out.trans hf1 (fun _ _ h => h)⟩
      · have hdn : decide (i < n) = false := decide_eq_false hin
        have hdn2 : decide ((i : Int) < (n : Int)) = false := decide_eq_false (by omega)
        clear hgo
        go_wp2_with fail
        refine Calls.mono (wakes_any wr (HT.out.kept HFr.out)) ?_
        rintro e w1 ⟨rfl, hf1⟩
        go_wp2_with fail
        go_ret
        exact ⟨rfl, HFr.out.trans hf1 (fun _ _ h => h)⟩
    · obtain ⟨hin, hi12⟩ := hgo
      have hdn : decide (i < n) = true := decide_eq_true hin
      have hdn2 : decide ((i : Int) < (n : Int)) = true := decide_eq_true (by omega)
      have hdt : decide ((i : Int) < 12) = true := decide_eq_true (by omega)
      have hdt2 : decide (i < 12) = true := decide_eq_true (by omega)
      have hiI : (i : Int) < (n : Int) := by omega
      obtain ⟨b, off, rfl, hcc⟩ := HA.out.cells (by omega)
      have k0 := hcc i hin
      have hok := HA.out.ok i hin
      generalize A i = y at *
      obtain ⟨vo, vc, l⟩ := y
      simp only at k0
      have HOK : Hid (YqOK w ⟨vo, vc, l⟩) := hok
      obtain ⟨nl, hnl2⟩ : ∃ nl, nl = l.length := ⟨_, rfl⟩
      have HNL : Hid (nl = l.length) := hnl2
      have hvl : nl ≤ 9223372036854775807 := by rw [hnl2]; exact hok.len
      rw [← hnl2] at k0
      clear hcc hnl2 hok
      have HCL : Hid (∀ w', Fr (fun _ => False) w w' → w'.cell? ⟨b, off + i, none⟩ = some (.slice vo nl vc)) := fun w' f => f.cellv k0 (fun h => h)
      clear k0
      have c0 := HCL.out wr HFr.out
      by_cases hbig : 20000 < nl
      · have hd9 : decide (20000 < nl) = true := decide_eq_true hbig
        have hd92 : decide ((20000 : Int) < (nl : Int)) = true := decide_eq_true (by omega)
        go_wp2_with fail
        go_roundg (12 - (i + 1))
        case measure => omega
        case rel => exact ⟨i + 1, by omega, by omega, congrArg (Value.int .i64) (by omega), HFr.out⟩
      · have hd9 : decide (20000 < nl) = false := decide_eq_false hbig
        have hd92 : decide ((20000 : Int) < (nl : Int)) = false := decide_eq_false (by omega)
        have HSA : Hid (∀ w', Fr (fun _ => False) w w' → SeenAt w' (.slice vo nl vc) l) := fun w' f => by
          rw [HNL.out]
          refine ⟨vo, vc, rfl, by rw [← HNL.out]; omega, fun hne => ?_⟩
          obtain ⟨b', o', e', hc'⟩ := HOK.out.cell hne
          exact ⟨b', o', e', fun j hj => f.cellv (hc' j hj) (fun h => h)⟩
        have HB8 : Hid (∀ w', Fr (fun _ => False) w w' → By8 w' vo l) := fun w' f => by
          refine ⟨by rw [← HNL.out]; omega, HOK.out.byt, fun hne => ?_⟩
          obtain ⟨b', o', e', hc'⟩ := HOK.out.cell hne
          exact ⟨b', o', e', fun j hj => f.cellv (hc' j hj) (fun h => h)⟩
        have HLD : Hid (Calls Tryd.prog 13 #[.slice vo nl vc] wr fun e w' => ∃ g, e = .returned (.slice (some ⟨g, 0, none⟩) nl (nl + 7)) ∧ LentY w' g l ∧ wr.heap.size ≤ g ∧ Fr (fun _ => False) wr w') := by
          have h := lendY_any (.slice vo nl vc) l wr (by rw [← HNL.out]; omega) (HSA.out wr HFr.out) (fun n' c' e => by
            simp only [Value.slice.injEq] at e
            obtain ⟨e1, e2, e3⟩ := e
            obtain ⟨h1, h2⟩ := HOK.out.nil e1
            simp only at h1 h2
            rw [h1] at HNL
            have := HNL.out
            simp at this
            omega)
          rw [← HNL.out] at h
          exact h
        go_wp2_with fail
        refine Calls.mono HLD.out ?_
        rintro e w2 ⟨g, rfl, hle, hg, hf2⟩
        have HLE : Hid (LentY w2 g l) := hle
        have HG : Hid (w.heap.size ≤ g) := Nat.le_trans HFr.out.size hg
        have HF2 : Hid (Fr (fun _ => False) w w2) := HFr.out.trans hf2 (fun _ _ h => h)
        have HGL : Hid (g < w2.heap.size) := hle.lt
        clear hle hg hf2 HLD c0
        obtain ⟨X, Y, ws, er, hans⟩ := readq_ans (readS l)
        have HAN : Hid (∀ w0 e w', ReadQ w0 (readS l) e w' → Fr (fun _ => False) w0 w' ∧ ∃ a, e = .returned (.tuple #[.agg #[.int .i64 X, .int .i64 Y, a], .int .i64 er]) ∧ RowB w0 ws a w') := hans
        clear hans
        have HRD : Hid (Calls Tryd.prog 14 #[.slice (some ⟨g, 0, none⟩) nl (nl + 7)] w2 fun e w' => Fr (fun _ => False) w2 w' ∧ ∃ a, e = .returned (.tuple #[.agg #[.int .i64 X, .int .i64 Y, a], .int .i64 er]) ∧ RowB w2 ws a w') := by
          have hs := HLE.out.seen (by rw [← HNL.out]; omega)
          obtain ⟨ao', cap', e', hl', hc'⟩ := hs
          simp only [Value.slice.injEq, true_and] at e'
          obtain ⟨rfl, rfl⟩ := e'
          have h := read_any (some ⟨g, 0, none⟩) (l.length + 7) l w2 hc' (by rw [← HNL.out]; omega) HOK.out.byt (by omega)
          rw [← HNL.out] at h
          exact h.mono fun e w' hq => HAN.out w2 e w' hq
        go_wp2_with fail
        refine Calls.mono HRD.out ?_
        rintro e w3 ⟨hf3, a1, rfl, hr1⟩
        have HF3 : Hid (Fr (fun _ => False) w2 w3) := hf3
        obtain ⟨o1, k1, p1, rfl⟩ := hr1.form
        have HR1 : Hid (RowB w2 ws (.slice o1 k1 p1) w3) := hr1
        clear hf3 hr1 HRD
        go_upto_region 7 with (fail)
        have HF4 : Hid (Fr (fun _ => False) w3 (w3.alloc (.cells #[.int .i64 X, .int .i64 Y, .slice o1 k1 p1] 25))) := (Fr.refl _ w3).alloc _
        have HB4 : Hid ((w3.alloc (.cells #[.int .i64 X, .int .i64 Y, .slice o1 k1 p1] 25)).heap[w3.heap.size]? = some (.cells #[.int .i64 X, .int .i64 Y, .slice o1 k1 p1] 25 (0, 0))) := heap_alloc_new w3 _
        generalize (w3.alloc (.cells #[.int .i64 X, .int .i64 Y, .slice o1 k1 p1] 25)) = w4 at *
        obtain ⟨B5, hB5⟩ : ∃ B5, B5 = w3.heap.size := ⟨_, rfl⟩
        have HBA : Hid (B5 = w3.heap.size) := hB5
        rw [← hB5] at HB4 ⊢
        clear hB5
        have HF24 : Hid (Fr (fun _ => False) w2 w4) := HF3.out.trans HF4.out (fun _ _ h => h)
        have HFW4 : Hid (Fr (fun _ => False) w w4) := HF2.out.trans HF24.out (fun _ _ h => h)
        have c0 := HCL.out w4 HFW4.out
        have HRR : Hid (Calls Tryd.prog 15 #[.slice vo nl vc] w4 fun e w' => Fr (fun _ => False) w4 w' ∧ ∃ a, e = .returned (.tuple #[.agg #[.int .i64 X, .int .i64 Y, a], .int .i64 er]) ∧ RowB w4 ws a w') := by
          have h := rread_any vo vc l w4 (HB8.out w4 HFW4.out)
          rw [← HNL.out] at h
          exact h.mono fun e w' hq => HAN.out w4 e w' hq
        go_wp2_with fail
        refine Calls.mono HRR.out ?_
        rintro e w5 ⟨hf5, a2, rfl, hr2⟩
        have HF5 : Hid (Fr (fun _ => False) w4 w5) := hf5
        obtain ⟨o2, k2, p2, rfl⟩ := hr2.form
        have HR2 : Hid (RowB w4 ws (.slice o2 k2 p2) w5) := hr2
        clear hf5 hr2 HRR c0
        go_upto_region 8 with (fail)
        have HF6 : Hid (Fr (fun _ => False) w5 (w5.alloc (.cells #[.int .i64 X, .int .i64 Y, .slice o2 k2 p2] 25))) := (Fr.refl _ w5).alloc _
        have HB6 : Hid ((w5.alloc (.cells #[.int .i64 X, .int .i64 Y, .slice o2 k2 p2] 25)).heap[w5.heap.size]? = some (.cells #[.int .i64 X, .int .i64 Y, .slice o2 k2 p2] 25 (0, 0))) := heap_alloc_new w5 _
        generalize (w5.alloc (.cells #[.int .i64 X, .int .i64 Y, .slice o2 k2 p2] 25)) = w6 at *
        obtain ⟨B7, hB7⟩ : ∃ B7, B7 = w5.heap.size := ⟨_, rfl⟩
        have HBB : Hid (B7 = w5.heap.size) := hB7
        rw [← hB7] at HB6 ⊢
        clear hB7
        have HF46 : Hid (Fr (fun _ => False) w4 w6) := HF5.out.trans HF6.out (fun _ _ h => h)
        have HFW6 : Hid (Fr (fun _ => False) w w6) := HFW4.out.trans HF46.out (fun _ _ h => h)
        have c0 := HCL.out w6 HFW6.out
        have HBK : Hid (Calls Tryd.prog 16 #[.slice (some ⟨g, 0, none⟩) nl (nl + 7), .slice vo nl vc] w6 fun e w' => e = .returned (.bool true) ∧ Fr (fun k => k = g) w6 w') := by
          have h := backY_any g (.slice vo nl vc) l w6 (by rw [← HNL.out]; omega) (HLE.out.kept (HF24.out.trans HF46.out (fun _ _ h => h)) (fun h => h)) (HSA.out w6 HFW6.out)
          rw [← HNL.out] at h
          exact h
        go_wp2_with fail
        refine Calls.mono HBK.out ?_
        rintro e w7 ⟨rfl, hf7⟩
        have HF7 : Hid (Fr (fun k => k = g) w6 w7) := hf7
        have HX7 : Hid ((w7.cell? ⟨B5, 0, none⟩ = some (.int .i64 X) ∧ w7.cell? ⟨B5, 1, none⟩ = some (.int .i64 Y) ∧ w7.cell? ⟨B5, 2, none⟩ = some (.slice o1 k1 p1)) ∧ w7.cell? ⟨B7, 0, none⟩ = some (.int .i64 X) ∧ w7.cell? ⟨B7, 1, none⟩ = some (.int .i64 Y) ∧ w7.cell? ⟨B7, 2, none⟩ = some (.slice o2 k2 p2)) := by
          have s1 := HGL.out
          have s2 := HF3.out.size
          have s3 := HF4.out.size
          have s5 := HF5.out.size
          have g1 : B5 ≠ g := by have := HBA.out; omega
          have g2 : B7 ≠ g := by have := HBB.out; omega
          have h1 : w7.heap[B5]? = some (.cells #[.int .i64 X, .int .i64 Y, .slice o1 k1 p1] 25 (0, 0)) := by
            rw [hf7.block _ (Nat.lt_of_lt_of_le (lt_of_block HB4.out) HF46.out.size) g1, HF46.out.block _ (lt_of_block HB4.out) (fun h => h)]
            exact HB4.out
          have h2 : w7.heap[B7]? = some (.cells #[.int .i64 X, .int .i64 Y, .slice o2 k2 p2] 25 (0, 0)) := by
            rw [hf7.block _ (lt_of_block HB6.out) g2]
            exact HB6.out
          obtain ⟨e0, e1, e2, _⟩ := cell_of_three h1
          obtain ⟨e3, e4, e5, _⟩ := cell_of_three h2
          exact ⟨⟨e0, e1, e2⟩, e3, e4, e5⟩
        clear hf7 HBK c0
        obtain ⟨⟨c0, c1, c2⟩, d0, d1, d2⟩ := HX7.out
        go_wp2_with fail
        have s1 : Seen w7 (.slice o1 k1 p1) ws := HR1.out.seen (((((Fr.refl (fun k => k = g) w3).trans HF4.out (fun _ _ h => h.elim)).trans HF46.out (fun _ _ h => h.elim))).trans HF7.out (fun _ _ h => h)) (fun k hk => by rw [hk]; exact HGL.out)
        have s2 : Seen w7 (.slice o2 k2 p2) ws := HR2.out.seen (((Fr.refl (fun k => k = g) w5).trans HF6.out (fun _ _ h => h.elim)).trans HF7.out (fun _ _ h => h)) (fun k hk => by rw [hk]; exact Nat.lt_of_lt_of_le HGL.out HF24.out.size)
        refine Calls.mono (eqBitmap_int X Y (.slice o1 k1 p1) (.slice o2 k2 p2) ws w7 s1 s2) ?_
        rintro e w8 ⟨rfl, hf8⟩
        have HF8 : Hid (Fr (fun _ => False) w w8) := (HFW6.out.trans HF7.out (fun i hi e => by have := HG.out; omega)).trans hf8 (fun _ _ h => h)
        clear hf8 s1 s2 c0 c1 c2 d0 d1 d2
        go_wp2_with fail
        go_roundg (12 - (i + 1))
        case measure => omega
        case rel => exact ⟨i + 1, by omega, by omega, congrArg (Value.int .i64) (by omega), HF8.out⟩
end Go.Proofs.YtpfajkkjnobdlaaDoor
