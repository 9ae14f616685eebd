/- Law 'Writes'. -/
import Derived.Test.YtpfajkkjnobdlaaDoorBs
import Derived.Test.YtpfajkkjnobdlaaDoorWk
import Derived.Test.YtpfajkkjnobdlaaDoorBy
namespace Go.Proofs.YtpfajkkjnobdlaaDoor
set_option maxRecDepth 100000
open Go.RowKit

set_option linter.unusedSimpArgs false in
set_option maxHeartbeats 4000000 in
theorem writes_any (ao : Option Addr) (n cap : Nat) (A : Nat → Bp) (w : World) (hA : BpsAt w ao n A) (ht : TabAt w) :
    Calls Tryd.prog 3 #[.slice ao n cap] w fun e w' => e = .returned (.bool true) ∧ Fr (fun _ => False) w w' := by
  have HA : Hid (BpsAt w ao n A) := hA
  have HT : Hid (TabAt w) := ht
  have hnl := hA.len
  clear hA ht
  go_enter Tryd.func3, Tryd.ntmps3
  go_wp2_with fail
  go_loopg [3] 12 (fun q iv wr => ∃ i : Nat, i + q = 12 ∧ i ≤ n ∧ iv = .int .i64 i ∧ Fr (fun _ => False) w wr)
  case atStart => exact ⟨0, by omega, by omega, rfl, Fr.refl _ _⟩
  case round =>
    obtain ⟨i, hiq, hin0, rfl, hf⟩ := hrel
    have HFr : Hid (Fr (fun _ => False) w wr) := hf
    clear hf
    by_cases hgo : i < n ∧ i < 12
    rotate_left
    · have hend : (decide (i < n) && decide (i < 12)) = false := by
        by_cases h1 : i < n
        · have : ¬ i < 12 := fun h => hgo ⟨h1, h⟩
          simp [this]
        · simp [h1]
      by_cases hin : i < n
      · have hdn : decide (i < n) = true := decide_eq_true hin
        have hdn2 : decide ((i : Int) < (n : Int)) = true := decide_eq_true (by omega)
        have hdt : decide ((i : Int) < 12) = false := decide_eq_false (by omega)
        have hdt2 : decide (i < 12) = false := decide_eq_false (by omega)
        clear hgo hend
        go_wp2_with fail
        refine Calls.mono (wakes_any wr (HT.out.kept HFr.out)) ?_
        rintro e w1 ⟨rfl, hf1⟩
        go_wp2_with fail
        go_ret
        exact ⟨rfl, HFr.out.trans hf1 (fun _ _ h => h)⟩
      · have hdn : decide (i < n) = false := decide_eq_false hin
        have hdn2 : decide ((i : Int) < (n : Int)) = false := decide_eq_false (by omega)
        clear hgo hend
        go_wp2_with fail
        refine Calls.mono (wakes_any wr (HT.out.kept HFr.out)) ?_
        rintro e w1 ⟨rfl, hf1⟩
        go_wp2_with fail
        go_ret
        exact ⟨rfl, HFr.out.trans hf1 (fun _ _ h => h)⟩
    · obtain ⟨hin, hi12⟩ := hgo
      have hdn : decide (i < n) = true := decide_eq_true hin
      have hdn2 : decide ((i : Int) < (n : Int)) = true := decide_eq_true (by omega)
      have hdt : decide ((i : Int) < 12) = true := decide_eq_true (by omega)
      have hdt2 : decide (i < 12) = true := decide_eq_true (by omega)
      have hiI : (i : Int) < (n : Int) := by omega
      obtain ⟨b, off, rfl, hcc⟩ := HA.out.cells (by omega)
      obtain ⟨k0, k1, k2⟩ := hcc i hin
      obtain ⟨hx, hy, hv, hnil, hlt⟩ := HA.out.ok i hin
      generalize A i = a at *
      obtain ⟨x, y, v, l⟩ := a
      simp only at k0 k1 k2 hx hy hv hnil hlt
      have HV : Hid (Seen w v l) := hv
      have HNIL : Hid (NilOK v) := hnil
      have HBO : Hid (∀ k : Int, ∃ (er : Int) (F : List Nat), (∀ w v, Seen w v l → TabAt w → Calls Tryd.prog 8 #[.agg #[.int .i64 x, .int .i64 y, v], .int .i64 k] w fun e w' => Fr (fun _ => False) w w' ∧ ∃ r, e = .returned (.tuple #[r, .int .i64 er]) ∧ ResB w F r w') ∧
          (∀ w v, Seen w v l → Calls Tryd.prog 9 #[.agg #[.int .i64 x, .int .i64 y, v], .int .i64 k] w fun e w' => Fr (fun _ => False) w w' ∧ ∃ r, e = .returned (.tuple #[r, .int .i64 er]) ∧ ResB w F r w')) := fun k => both_any x y l k hx hy hlt
      clear hcc hx hy hlt hnil
      obtain ⟨vo, vc, rfl, hvl, _⟩ := hv
      obtain ⟨nl, hnl2⟩ : ∃ nl, nl = l.length := ⟨_, rfl⟩
      have HNL : Hid (nl = l.length) := hnl2
      rw [← hnl2] at hvl k2 HV HNIL
      clear hnl2
      have HCL : Hid (∀ w', Fr (fun _ => False) w w' → w'.cell? ⟨b, off + i * 3, none⟩ = some (.int .i64 x) ∧ w'.cell? ⟨b, off + i * 3 + 1, none⟩ = some (.int .i64 y) ∧ w'.cell? ⟨b, off + i * 3 + 2, none⟩ = some (.slice vo nl vc)) := fun w' f => ⟨f.cellv k0 (fun h => h), f.cellv k1 (fun h => h), f.cellv k2 (fun h => h)⟩
      clear k0 k1 k2
      obtain ⟨c0, c1, c2⟩ := HCL.out wr HFr.out
      by_cases h937 : 937 < nl
      · have hd9 : decide (937 < nl) = true := decide_eq_true h937
        have hd92 : decide ((937 : Int) < (nl : Int)) = true := decide_eq_true (by omega)
        go_wp2_with fail
        go_roundg (12 - (i + 1))
        case measure => omega
        case rel => exact ⟨i + 1, by omega, by omega, congrArg (Value.int .i64) (by omega), HFr.out⟩
      · have hd9 : decide (937 < nl) = false := decide_eq_false h937
        have hd92 : decide ((937 : Int) < (nl : Int)) = false := decide_eq_false (by omega)
        go_wp2_with fail
        go_loopg [4] 4 (fun q kv ws => ∃ (k : Nat) (z : Int), k + q = 4 ∧ z = (k : Int) - 1 ∧ kv = .int .i64 z ∧ Fr (fun _ => False) w ws)
        case atStart => exact ⟨0, -1, by omega, by omega, rfl, HFr.out⟩
        case round =>
          clear HFr c0 c1 c2
          obtain ⟨k, z, hkq, hz, rfl, hf⟩ := hrel
          have HFr : Hid (Fr (fun _ => False) w wr) := hf
          clear hf
          have HZ : Hid (z = (k : Int) - 1) := hz
          have hz1 : -1 ≤ z := by omega
          have hz2 : z ≤ 3 := by omega
          clear hz
          obtain ⟨c0, c1, c2⟩ := HCL.out wr HFr.out
          by_cases hz3 : z < 3
          rotate_left
          · have hdz : decide (z < 3) = false := decide_eq_false hz3
            go_wp2_with fail
            go_roundg (12 - (i + 1))
            case measure => omega
            case rel => exact ⟨i + 1, by omega, by omega, congrArg (Value.int .i64) (by omega), HFr.out⟩
          · have hdz : decide (z < 3) = true := decide_eq_true hz3
            go_wp2_with fail
            have HLD : Hid (Calls Tryd.prog 7 #[.agg #[.int .i64 x, .int .i64 y, .slice vo nl vc]] wr fun e w' => ∃ g, e = .returned (.agg #[.int .i64 x, .int .i64 y, .slice (some ⟨g, 0, none⟩) nl (nl + 7)]) ∧ Lent w' g l ∧ wr.heap.size ≤ g ∧ Fr (fun _ => False) wr w') := by
              have h := lendB_any x y (.slice vo nl vc) l wr (HV.out.kept HFr.out) HNIL.out (by rw [← HNL.out]; omega)
              rw [← HNL.out] at h
              exact h
            refine Calls.mono HLD.out ?_
            rintro e w2 ⟨g, rfl, hle, hg, hf2⟩
            have HLE : Hid (Lent w2 g l) := hle
            have HG : Hid (w.heap.size ≤ g) := Nat.le_trans HFr.out.size hg
            have HF2 : Hid (Fr (fun _ => False) w w2) := HFr.out.trans hf2 (fun _ _ h => h)
            clear hle hg hf2 HLD c0 c1 c2
            go_upto_region 9 with (fail)
            have HF3 : Hid (Fr (fun _ => False) w2 (w2.alloc (.cells #[.int .i64 x, .int .i64 y, .slice (some ⟨g, 0, none⟩) nl (nl + 7)] 25))) := (Fr.refl _ w2).alloc _
            have HB3 : Hid ((w2.alloc (.cells #[.int .i64 x, .int .i64 y, .slice (some ⟨g, 0, none⟩) nl (nl + 7)] 25)).heap[w2.heap.size]? = some (.cells #[.int .i64 x, .int .i64 y, .slice (some ⟨g, 0, none⟩) nl (nl + 7)] 25 (0, 0))) := heap_alloc_new w2 _
            generalize (w2.alloc (.cells #[.int .i64 x, .int .i64 y, .slice (some ⟨g, 0, none⟩) nl (nl + 7)] 25)) = w3 at *
            have HLE3 : Hid (Lent w3 g l) := HLE.out.kept HF3.out (fun h => h)
            have HFW3 : Hid (Fr (fun _ => False) w w3) := HF2.out.trans HF3.out (fun _ _ h => h)
            have HGL : Hid (g < w2.heap.size) := HLE.out.lt
            obtain ⟨B, hB⟩ : ∃ B, B = w2.heap.size := ⟨_, rfl⟩
            have HB : Hid (B = w2.heap.size) := hB
            rw [← hB] at HB3 ⊢
            clear hB HLE
            have HSL : Hid (∀ w', Lent w' g l → Seen w' (.slice (some ⟨g, 0, none⟩) nl (nl + 7)) l) := fun w' h => by
              have h2 := h.seen (by rw [← HNL.out]; omega)
              rw [← HNL.out] at h2
              exact h2
            have HX : Hid (∀ w', Fr (fun k => k = g) w3 w' → (w'.cell? ⟨B, 0, none⟩ = some (.int .i64 x) ∧ w'.cell? ⟨B, 1, none⟩ = some (.int .i64 y) ∧ w'.cell? ⟨B, 2, none⟩ = some (.slice (some ⟨g, 0, none⟩) nl (nl + 7))) ∧ w'.cell? ⟨b, off + i * 3, none⟩ = some (.int .i64 x) ∧ w'.cell? ⟨b, off + i * 3 + 1, none⟩ = some (.int .i64 y) ∧ w'.cell? ⟨b, off + i * 3 + 2, none⟩ = some (.slice vo nl vc)) := fun w' f => by
              have h1 : w'.heap[B]? = _ := (f.block _ (lt_of_block HB3.out) (fun h => by have := HGL.out; have := HB.out; omega)).trans HB3.out
              obtain ⟨e0, e1, e2, _⟩ := cell_of_three h1
              exact ⟨⟨e0, e1, e2⟩, HCL.out w' (HFW3.out.trans f (fun i hi e => by have := HG.out; omega))⟩
            obtain ⟨⟨d0, d1, d2⟩, c0, c1, c2⟩ := HX.out w3 (Fr.refl _ _)
            obtain ⟨er, F, p8, p9⟩ := HBO.out z
            have HP8 : Hid (∀ w v, Seen w v l → TabAt w → Calls Tryd.prog 8 #[.agg #[.int .i64 x, .int .i64 y, v], .int .i64 z] w fun e w' => Fr (fun _ => False) w w' ∧ ∃ r, e = .returned (.tuple #[r, .int .i64 er]) ∧ ResB w F r w') := p8
            have HP9 : Hid (∀ w v, Seen w v l → Calls Tryd.prog 9 #[.agg #[.int .i64 x, .int .i64 y, v], .int .i64 z] w fun e w' => Fr (fun _ => False) w w' ∧ ∃ r, e = .returned (.tuple #[r, .int .i64 er]) ∧ ResB w F r w') := p9
            clear p8 p9
            go_wp2_with fail
            refine Calls.mono (HP8.out w3 _ (HSL.out _ HLE3.out) (HT.out.kept HFW3.out)) ?_
            rintro e w4 ⟨hf4, r8, rfl, hr8⟩
            have HF4 : Hid (Fr (fun _ => False) w3 w4) := hf4
            have HR8 : Hid (ResB w3 F r8 w4) := hr8
            clear hf4 hr8 c0 c1 c2 d0 d1 d2
            obtain ⟨⟨d0, d1, d2⟩, c0, c1, c2⟩ := HX.out w4 ((Fr.refl (fun k => k = g) w3).trans HF4.out (fun _ _ h => h.elim))
            go_wp2_with fail
            refine Calls.mono (HP9.out w4 _ (HV.out.kept (HFW3.out.trans HF4.out (fun _ _ h => h)))) ?_
            rintro e w5 ⟨hf5, r9, rfl, hr9⟩
            have HF5 : Hid (Fr (fun _ => False) w4 w5) := hf5
            have HF35 : Hid (Fr (fun _ => False) w3 w5) := HF4.out.trans hf5 (fun _ _ h => h)
            have HR9 : Hid (ResB w4 F r9 w5) := hr9
            clear hf5 hr9 c0 c1 c2 d0 d1 d2
            have HFG5 : Hid (Fr (fun k => k = g) w3 w5) := (Fr.refl (fun k => k = g) w3).trans HF35.out (fun _ _ h => h.elim)
            have HKS : Hid (∀ w', Fr (fun k => k = g) w5 w' → w'.cell? ⟨B, 0, none⟩ = some (.int .i64 x) ∧ w'.cell? ⟨B, 1, none⟩ = some (.int .i64 y) ∧ w'.cell? ⟨B, 2, none⟩ = some (.slice (some ⟨g, 0, none⟩) nl (nl + 7)) ∧ w'.cell? ⟨b, off + i * 3, none⟩ = some (.int .i64 x) ∧ w'.cell? ⟨b, off + i * 3 + 1, none⟩ = some (.int .i64 y) ∧ w'.cell? ⟨b, off + i * 3 + 2, none⟩ = some (.slice vo nl vc)) := fun w' f => by
              obtain ⟨⟨e0, e1, e2⟩, e3, e4, e5⟩ := HX.out w' (HFG5.out.trans f (fun _ _ h => h))
              exact ⟨e0, e1, e2, e3, e4, e5⟩
            have HBK : Hid (∀ w', Fr (fun _ => False) w5 w' → Calls Tryd.prog 10 #[.agg #[.int .i64 x, .int .i64 y, .slice (some ⟨g, 0, none⟩) nl (nl + 7)], .agg #[.int .i64 x, .int .i64 y, .slice vo nl vc]] w' fun e w'' => e = .returned (.bool true) ∧ Fr (fun k => k = g) w' w'') := fun w' f => by
              have h := backB_any x y g (.slice vo nl vc) l w' (by rw [← HNL.out]; omega) (HLE3.out.kept (HF35.out.trans f (fun _ _ h => h)) (fun h => h)) (HV.out.kept ((HFW3.out.trans HF35.out (fun _ _ h => h)).trans f (fun _ _ h => h)))
              rw [← HNL.out] at h
              exact h
            have HEQ : Hid (∀ w', Fr (fun k => k = g) w5 w' → Calls Tryd.prog 11 #[r8, r9] w' fun e w'' => e = .returned (.bool true) ∧ ∃ q, w'' = w'.drewN q) := fun w' f => by
              have hlt3 : g < w3.heap.size := Nat.lt_of_lt_of_le (by have := HGL.out; exact this) HF3.out.size
              have s8 : SeenAt w' r8 F := HR8.out.seen (((Fr.refl (fun k => k = g) w4).trans HF5.out (fun _ _ h => h.elim)).trans f (fun _ _ h => h)) (fun k hk => by rw [hk]; exact hlt3)
              have s9 : SeenAt w' r9 F := HR9.out.seen f (fun k hk => by rw [hk]; exact Nat.lt_of_lt_of_le hlt3 HF4.out.size)
              refine (eq_any r8 r9 F F w' s8 s9).mono ?_
              rintro e w'' ⟨rfl, h⟩
              exact ⟨by simp, h⟩
            obtain ⟨d0, d1, d2, c0, c1, c2⟩ := HKS.out w5 (Fr.refl _ _)
            go_wp2_with fail
            go_region_held3 (fun w' => w'.cell? ⟨B, 0, none⟩ = some (.int .i64 x) ∧ w'.cell? ⟨B, 1, none⟩ = some (.int .i64 y) ∧ w'.cell? ⟨B, 2, none⟩ = some (.slice (some ⟨g, 0, none⟩) nl (nl + 7)) ∧ w'.cell? ⟨b, off + i * 3, none⟩ = some (.int .i64 x) ∧ w'.cell? ⟨b, off + i * 3 + 1, none⟩ = some (.int .i64 y) ∧ w'.cell? ⟨b, off + i * 3 + 2, none⟩ = some (.slice vo nl vc)) (exact HKS.out _ (by repeat (first | with_reducible exact Fr.refl _ _ | with_reducible refine Fr.drew ?_ | with_reducible refine Fr.drewN ?_ _ | with_reducible refine Fr.trans ?_ hf6 (fun _ _ hh => hh)))) (first | (go_at_call 10; refine (HBK.out _ ((Fr.refl _ _).drew)).mono ?_; rintro e w6 ⟨rfl, hf6⟩) | (go_at_call 11; refine (HEQ.out _ (Fr.trans ((Fr.refl _ _).drew) hf6 (fun _ _ hh => hh))).mono ?_; rintro e w7 ⟨rfl, q7, hw7⟩))
            have HF7 : Hid (Fr (fun _ => False) w w7) := by
              rw [hw7]
              exact ((HFW3.out.trans HF35.out (fun _ _ h => h)).drew.trans hf6 (fun i hi e => by have := HG.out; omega)).drewN q7
            have HW7 : Hid (w7 = w6.drewN q7) := hw7
            clear hf6 hw7 d0 d1 d2 c0 c1 c2
            go_wp2_with fail
            go_roundg (4 - (k + 1))
            case measure => have := HZ.out; omega
            case rel => exact ⟨k + 1, z + 1, by have := HZ.out; omega, by rw [HZ.out]; push_cast; omega, congrArg (Value.int .i64) (by omega), by rw [← HW7.out]; exact HF7.out⟩
end Go.Proofs.YtpfajkkjnobdlaaDoor
