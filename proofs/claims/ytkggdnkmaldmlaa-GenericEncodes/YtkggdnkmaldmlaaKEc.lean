/- The law 'GenericEncodes'. -/
import Derived.Test.YtkggdnkmaldmlaaK38
import Derived.Test.YtkggdnkmaldmlaaK30
namespace Go.Proofs.Ytkggdnkmaldmlaa
open Go.RowKit

set_option maxRecDepth 100000 in
set_option maxHeartbeats 8000000 in
theorem encodes7_any (ao : Option Addr) (n cp : Nat) (A : Nat → Ak) (w : World) (hA : AsksAt w ao n A) :
    Calls Try.prog 3 #[.slice ao n cp] w fun e w' => e = .returned (.bool true) ∧ Fr (fun _ => False) w w' := by
  have HA : Hid (∀ w', Fr (fun _ => False) w w' → AsksAt w' ao n A) := fun w' f => hA.kept f
  have hn := hA.len
  clear hA
  go_enter Try.func3, Try.ntmps3
  go_wp2_with fail
  go_loopw [3, 4, 5, 6, 7, 8] (fun a _ _ _ _ _ wr => ∃ i : Nat, i ≤ 6 ∧ a = .int .i64 i ∧ Fr (fun _ => False) w wr) (fun a _ _ _ _ _ _ => 6 - (intOf a).toNat)
  case atStart => exact ⟨0, by omega, rfl, Fr.refl _ _⟩
  case round =>
    obtain ⟨i, hi, rfl, hfr⟩ := hrel
    have HFr : Hid (Fr (fun _ => False) w wr) := hfr
    clear hfr
    by_cases hin : i < n
    · by_cases hi6 : i < 6
      · have hdn : decide ((i : Int) < (n : Int)) = true := decide_eq_true (by omega)
        have hd6 : decide ((i : Int) < 6) = true := decide_eq_true (by omega)
        obtain ⟨b, off, hao, -⟩ := (HA.out wr HFr.out).cells (by omega)
        subst hao
        have HC : Hid (∀ w', Fr (fun _ => False) wr w' → (w'.cell? ⟨b, off + i * 5, none⟩ = some (.int .i64 (A i).x) ∧ w'.cell? ⟨b, off + i * 5 + 1, none⟩ = some (.int .i64 (A i).y) ∧ w'.cell? ⟨b, off + i * 5 + 2, none⟩ = some (A i).v ∧ w'.cell? ⟨b, off + i * 5 + 3, none⟩ = some (.int .i64 (A i).t) ∧ w'.cell? ⟨b, off + i * 5 + 4, none⟩ = some (.bool (A i).sk)) ∧ AkOK w' (A i)) := fun w' f => by
          have h := HA.out w' (HFr.out.trans f (fun _ _ h => h))
          obtain ⟨b', off', e, hc⟩ := h.cells (by omega)
          simp only [Option.some.injEq, Addr.mk.injEq, and_true] at e
          obtain ⟨rfl, rfl⟩ := e
          exact ⟨hc i hin, h.ok i hin⟩
        obtain ⟨⟨c0, c1, c2, c3, c4⟩, hak⟩ := HC.out wr (Fr.refl _ _)
        obtain ⟨a, Ha⟩ : ∃ a, Hid (a = A i) := ⟨_, rfl⟩
        rw [← Ha.out] at HC c0 c1 c2 c3 c4 hak
        obtain ⟨x, y, v, l, t, sk⟩ := a
        simp only [] at HC c0 c1 c2 c3 c4
        obtain ⟨va, vc, hvv, -, -⟩ := hak.hv
        obtain ⟨n0, HN0⟩ : ∃ n0, Hid (n0 = l.length) := ⟨_, rfl⟩
        simp only [] at hvv
        rw [← HN0.out] at hvv
        subst hvv
        have HLI : Hid (∀ w', Fr (fun _ => False) wr w' → Calls Try.prog 9 #[.agg #[.int .i64 x, .int .i64 y, .slice va n0 vc]] w' fun e w'' => e = .returned (.bool (lightB x y l)) ∧ Fr (fun _ => False) w' w'') := fun w' f => by
          have h := (HC.out w' f).2
          exact light_any x y _ l w' h.hx h.hy h.hv h.hc h.hlt
        clear hak
        go_wp2_with fail
        refine (HLI.out _ (Fr.refl _ _)).mono ?_
        rintro e w1 ⟨rfl, hf1⟩
        have HF1 : Hid (Fr (fun _ => False) wr w1) := hf1
        clear hf1 c0 c1 c2 c3 c4
        cases hlb : lightB x y l
        · go_wp2_with fail
          exact ⟨⟨i + 1, by omega, by rw [Int.natCast_add]; rfl, HFr.out.trans HF1.out (fun _ _ h => h)⟩, by simp only [intOf]; omega⟩
        · have hl1 : l.length ≤ 1000 := by
            unfold lightB at hlb
            simp only [Bool.and_eq_true, decide_eq_true_eq] at hlb
            exact hlb.1
          have hnl : n0 ≤ 1000 := by rw [HN0.out]; exact hl1
          have HLe : Hid (∀ w', Fr (fun _ => False) wr w' → Calls Try.prog 10 #[.agg #[.int .i64 x, .int .i64 y, .slice va n0 vc]] w' fun e w'' => ∃ g, e = .returned (.agg #[.int .i64 x, .int .i64 y, .slice (some ⟨g, 0, none⟩) n0 (n0 + 7)]) ∧ Lent w'' g l ∧ w'.heap.size ≤ g ∧ Fr (fun _ => False) w' w'') := fun w' f => by
            have h := (HC.out w' f).2
            rw [HN0.out]
            have h2 := lendB_any x y _ l w' h.hv h.hn hl1
            rw [← HN0.out] at h2 ⊢
            exact h2
          have HEn : Hid (∀ (w' : World) (g : Nat), Lent w' g l → Calls Try.prog 11 #[.agg #[.int .i64 x, .int .i64 y, .slice (some ⟨g, 0, none⟩) n0 (n0 + 7)], .int .i64 t, .bool sk] w' fun e w'' => ∃ vf, e = .returned (.tuple #[vf, .int .i64 (encE x y l t)]) ∧ SeenAt w'' vf (encB x y l t sk) ∧ (∀ k, vf.ownBlock = some k → w'.heap.size ≤ k) ∧ Fr (fun _ => False) w' w'') := fun w' g hl => by
            have h := (HC.out wr (Fr.refl _ _)).2
            have hs := hl.seen (by omega)
            rw [HN0.out]
            refine gencode_all x y _ l t sk w' h.hx h.hy hs ?_ h.hlt hlb
            intro ao' n' c' e
            simp only [Value.slice.injEq] at e
            obtain ⟨_, rfl, rfl⟩ := e
            exact ⟨by omega, by unfold maxLen; omega⟩
          have HRn : Hid (∀ w', Fr (fun _ => False) wr w' → Calls Try.prog 12 #[.agg #[.int .i64 x, .int .i64 y, .slice va n0 vc], .int .i64 t, .bool sk] w' fun e w'' => ∃ vf, e = .returned (.tuple #[vf, .int .i64 (encE x y l t)]) ∧ SeenAt w'' vf (encB x y l t sk) ∧ (∀ k, vf.ownBlock = some k → w'.heap.size ≤ k) ∧ Fr (fun _ => False) w' w'') := fun w' f => by
            have h := (HC.out w' f).2
            exact rgencode_all x y _ l t sk w' h.hx h.hy h.hv h.hc h.hlt hlb
          have HBk : Hid (∀ (w' : World) (g : Nat), Fr (fun _ => False) wr w' → Lent w' g l → Calls Try.prog 13 #[.agg #[.int .i64 x, .int .i64 y, .slice (some ⟨g, 0, none⟩) n0 (n0 + 7)], .agg #[.int .i64 x, .int .i64 y, .slice va n0 vc]] w' fun e w'' => e = .returned (.bool true) ∧ Fr (fun k => k = g) w' w'') := fun w' g f hl => by
            have h := (HC.out w' f).2
            have h2 := backB_any x y g _ l w' hl1 hl h.hv
            rw [← HN0.out] at h2
            exact h2
          generalize encE x y l t = er at *
          generalize encB x y l t sk = B at *
          have HCc : Hid (∀ w', Fr (fun _ => False) wr w' → w'.cell? ⟨b, off + i * 5, none⟩ = some (.int .i64 x) ∧ w'.cell? ⟨b, off + i * 5 + 1, none⟩ = some (.int .i64 y) ∧ w'.cell? ⟨b, off + i * 5 + 2, none⟩ = some (.slice va n0 vc) ∧ w'.cell? ⟨b, off + i * 5 + 3, none⟩ = some (.int .i64 t) ∧ w'.cell? ⟨b, off + i * 5 + 4, none⟩ = some (.bool sk)) := fun w' f => (HC.out w' f).1
          clear HC HLI hlb hl1
          obtain ⟨c0, c1, c2, c3, c4⟩ := HCc.out _ HF1.out
          go_wp2_with fail
          refine (HLe.out _ HF1.out).mono ?_
          rintro e w2 ⟨g, rfl, hl2, hg2, hf2⟩
          have HF2 : Hid (Fr (fun _ => False) wr (w2.alloc (.cells #[.int .i64 x, .int .i64 y, .slice (some ⟨g, 0, none⟩) n0 (n0 + 7)] 26))) := (HF1.out.trans hf2 (fun _ _ h => h)).alloc _
          have HL2 : Hid (∀ w', Fr (fun _ => False) (w2.alloc (.cells #[.int .i64 x, .int .i64 y, .slice (some ⟨g, 0, none⟩) n0 (n0 + 7)] 26)) w' → Lent w' g l) := fun w' f => (hl2.kept ((Fr.refl (fun _ => False) w2).alloc _) (fun h => h)).kept f (fun h => h)
          have HX2 : Hid (∀ w', Fr (fun _ => False) (w2.alloc (.cells #[.int .i64 x, .int .i64 y, .slice (some ⟨g, 0, none⟩) n0 (n0 + 7)] 26)) w' → w'.cell? ⟨w2.heap.size, 0, none⟩ = some (.int .i64 x) ∧ w'.cell? ⟨w2.heap.size, 1, none⟩ = some (.int .i64 y) ∧ w'.cell? ⟨w2.heap.size, 2, none⟩ = some (.slice (some ⟨g, 0, none⟩) n0 (n0 + 7))) := fun w' f => by
            obtain ⟨a0, a1, a2, _⟩ := cell_of_three ((f.block w2.heap.size (by simp) (fun hh => hh)).trans (heap_alloc_new w2 _))
            exact ⟨a0, a1, a2⟩
          have HG2 : Hid (wr.heap.size ≤ g ∧ g < (w2.alloc (.cells #[.int .i64 x, .int .i64 y, .slice (some ⟨g, 0, none⟩) n0 (n0 + 7)] 26)).heap.size) := by have := HF1.out.size; have := hl2.lt; refine ⟨?_, ?_⟩; omega; simp; omega
          have HB3' : Hid (w2.heap.size ≠ g) := by have := hl2.lt; show _ ≠ _; omega
          clear hl2 hg2 hf2 c0 c1 c2 c3 c4
          go_wp2_with fail
          generalize hwA : w2.alloc (.cells #[.int .i64 x, .int .i64 y, .slice (some ⟨g, 0, none⟩) n0 (n0 + 7)] 26) = wA at *
          clear hwA
          have HCX : Hid (∀ w', Fr (fun _ => False) wA w' → w'.cell? ⟨w2.heap.size, 0, none⟩ = some (.int .i64 x) ∧ w'.cell? ⟨w2.heap.size, 1, none⟩ = some (.int .i64 y) ∧ w'.cell? ⟨w2.heap.size, 2, none⟩ = some (.slice (some ⟨g, 0, none⟩) n0 (n0 + 7)) ∧ w'.cell? ⟨b, off + i * 5, none⟩ = some (.int .i64 x) ∧ w'.cell? ⟨b, off + i * 5 + 1, none⟩ = some (.int .i64 y) ∧ w'.cell? ⟨b, off + i * 5 + 2, none⟩ = some (.slice va n0 vc) ∧ w'.cell? ⟨b, off + i * 5 + 3, none⟩ = some (.int .i64 t) ∧ w'.cell? ⟨b, off + i * 5 + 4, none⟩ = some (.bool sk)) := fun w' f => by
            obtain ⟨a0, a1, a2⟩ := HX2.out w' f
            obtain ⟨d0, d1, d2, d3, d4⟩ := HCc.out w' (HF2.out.trans f (fun _ _ h => h))
            exact ⟨a0, a1, a2, d0, d1, d2, d3, d4⟩
          have HB2 : Hid (b < wr.heap.size) := seen_lt (HCc.out wr (Fr.refl _ _)).1
          have HB3 : Hid (w2.heap.size ≠ g) := by have := (HL2.out wA (Fr.refl _ _)); show _ ≠ _; exact HB3'.out
          have hix : (0 : Int) ≤ (i : Int) := by omega
          have hix2 : (i : Int) < (n : Int) := by omega
          go_region_held3 (fun w' => w'.cell? ⟨w2.heap.size, 0, none⟩ = some (.int .i64 x) ∧ w'.cell? ⟨w2.heap.size, 1, none⟩ = some (.int .i64 y) ∧ w'.cell? ⟨w2.heap.size, 2, none⟩ = some (.slice (some ⟨g, 0, none⟩) n0 (n0 + 7)) ∧ w'.cell? ⟨b, off + i * 5, none⟩ = some (.int .i64 x) ∧ w'.cell? ⟨b, off + i * 5 + 1, none⟩ = some (.int .i64 y) ∧ w'.cell? ⟨b, off + i * 5 + 2, none⟩ = some (.slice va n0 vc) ∧ w'.cell? ⟨b, off + i * 5 + 3, none⟩ = some (.int .i64 t) ∧ w'.cell? ⟨b, off + i * 5 + 4, none⟩ = some (.bool sk)) (exact HCX.out _ (by repeat (first | with_reducible exact Fr.refl _ _ | with_reducible refine Fr.drew ?_ | with_reducible refine Fr.trans ?_ hf3 (fun _ _ hh => hh)))) (first | (go_at_call 11; refine (HEn.out _ g (HL2.out _ (by repeat (first | with_reducible exact Fr.refl _ _ | with_reducible refine Fr.drew ?_)))).mono ?_; rintro e w3 ⟨vf, rfl, hs3, ho3, hf3⟩))
          have HF3 : Hid (Fr (fun _ => False) wA w3) := (Fr.refl _ _).drew.trans hf3 (fun _ _ h => h)
          have HS3 : Hid (∀ w' (T : Nat → Prop), Fr T w3 w' → (∀ k, T k → k = g) → SeenAt w' vf B) := fun w' T f hT => hs3.kept f (fun k hk e => by
            have h1 := hT k e
            have h2 : wA.heap.size ≤ k := ho3 k hk
            have h3 := HG2.out
            omega)
          obtain ⟨fo, fc, hvf, -, -⟩ := hs3
          obtain ⟨bl, HBl⟩ : ∃ bl, Hid (bl = B.length) := ⟨_, rfl⟩
          rw [← HBl.out] at hvf
          subst hvf
          clear hf3 ho3
          have HCX3 : Hid (∀ w', Fr (fun _ => False) w3 w' → _) := fun w' f => HCX.out w' (HF3.out.trans f (fun _ _ h => h))
          go_wp2_with fail
          go_region_held3 (fun w' => w'.cell? ⟨w2.heap.size, 0, none⟩ = some (.int .i64 x) ∧ w'.cell? ⟨w2.heap.size, 1, none⟩ = some (.int .i64 y) ∧ w'.cell? ⟨w2.heap.size, 2, none⟩ = some (.slice (some ⟨g, 0, none⟩) n0 (n0 + 7)) ∧ w'.cell? ⟨b, off + i * 5, none⟩ = some (.int .i64 x) ∧ w'.cell? ⟨b, off + i * 5 + 1, none⟩ = some (.int .i64 y) ∧ w'.cell? ⟨b, off + i * 5 + 2, none⟩ = some (.slice va n0 vc) ∧ w'.cell? ⟨b, off + i * 5 + 3, none⟩ = some (.int .i64 t) ∧ w'.cell? ⟨b, off + i * 5 + 4, none⟩ = some (.bool sk)) (exact HCX3.out _ (by repeat (first | with_reducible exact Fr.refl _ _ | with_reducible refine Fr.drew ?_ | with_reducible refine Fr.trans ?_ hf4 (fun _ _ hh => hh)))) (first | (go_at_call 12; refine (HRn.out _ (HF2.out.trans (HF3.out.trans (by repeat (first | with_reducible exact Fr.refl _ _ | with_reducible refine Fr.drew ?_)) (fun _ _ h => h)) (fun _ _ h => h))).mono ?_; rintro e w4 ⟨vq, rfl, hs4, ho4, hf4⟩))
          have HF4 : Hid (Fr (fun _ => False) w3 w4) := (Fr.refl _ _).drew.trans hf4 (fun _ _ h => h)
          have HFA4 : Hid (Fr (fun _ => False) wA w4) := HF3.out.trans HF4.out (fun _ _ h => h)
          have HSz : Hid (wA.heap.size ≤ w3.heap.size) := HF3.out.size
          have HS4 : Hid (∀ w' (T : Nat → Prop), Fr T w4 w' → (∀ k, T k → k = g) → SeenAt w' vq B) := fun w' T f hT => hs4.kept f (fun k hk e => by
            have h1 := hT k e
            have h2 : w3.heap.size ≤ k := ho4 k hk
            have h3 := HG2.out
            have h4 := HSz.out
            omega)
          obtain ⟨qo, qc, hvq, -, -⟩ := hs4
          rw [← HBl.out] at hvq
          subst hvq
          have HCX4 : Hid (∀ w', Fr (fun k => k = g) w4 w' → w'.cell? ⟨w2.heap.size, 0, none⟩ = some (.int .i64 x) ∧ w'.cell? ⟨w2.heap.size, 1, none⟩ = some (.int .i64 y) ∧ w'.cell? ⟨w2.heap.size, 2, none⟩ = some (.slice (some ⟨g, 0, none⟩) n0 (n0 + 7)) ∧ w'.cell? ⟨b, off + i * 5, none⟩ = some (.int .i64 x) ∧ w'.cell? ⟨b, off + i * 5 + 1, none⟩ = some (.int .i64 y) ∧ w'.cell? ⟨b, off + i * 5 + 2, none⟩ = some (.slice va n0 vc) ∧ w'.cell? ⟨b, off + i * 5 + 3, none⟩ = some (.int .i64 t) ∧ w'.cell? ⟨b, off + i * 5 + 4, none⟩ = some (.bool sk)) := fun w' f => by
            have hb2 := HB2.out
            have hb3 := HB3.out
            have hg := HG2.out
            have hwr := HF2.out.size
            have f1 : Fr (fun k => k = g) wA w' := (HFA4.out.mono (fun _ _ h => h.elim)).trans f (fun _ _ h => h)
            obtain ⟨a0, a1, a2, d0, d1, d2, d3, d4⟩ := HCX.out wA (Fr.refl _ _)
            refine ⟨?_, ?_, ?_, ?_, ?_, ?_, ?_, ?_⟩ <;> rw [f1.cellEq (by first | exact seen_lt a0 | exact seen_lt d0) (by omega)] <;> assumption
          have HEq : Hid (∀ w', Fr (fun k => k = g) w4 w' → Calls Try.prog 14 #[.slice fo bl fc, .slice qo bl qc] w' fun e w'' => e = .returned (.bool true) ∧ Fr (fun _ => False) w' w'') := fun w' f => by
            refine (eq_any _ _ B B w' (HS3.out w' _ ((HF4.out.mono (fun _ _ h => h.elim)).trans f (fun _ _ h => h)) (fun _ h => h)) (HS4.out w' _ f (fun _ h => h))).mono ?_
            rintro e w'' ⟨rfl, q, rfl⟩
            exact ⟨by simp, (Fr.refl _ _).drewN q⟩
          have HBk4 : Hid (∀ w', Fr (fun _ => False) w4 w' → Calls Try.prog 13 #[.agg #[.int .i64 x, .int .i64 y, .slice (some ⟨g, 0, none⟩) n0 (n0 + 7)], .agg #[.int .i64 x, .int .i64 y, .slice va n0 vc]] w' fun e w'' => e = .returned (.bool true) ∧ Fr (fun k => k = g) w' w'') := fun w' f => HBk.out w' g (HF2.out.trans (HFA4.out.trans f (fun _ _ h => h)) (fun _ _ h => h)) (HL2.out w' (HFA4.out.trans f (fun _ _ h => h)))
          clear hf4 ho4
          have hee : (er != er) = false := by simp
          go_wp2_with fail
          go_region_held3 (fun w' => w'.cell? ⟨w2.heap.size, 0, none⟩ = some (.int .i64 x) ∧ w'.cell? ⟨w2.heap.size, 1, none⟩ = some (.int .i64 y) ∧ w'.cell? ⟨w2.heap.size, 2, none⟩ = some (.slice (some ⟨g, 0, none⟩) n0 (n0 + 7)) ∧ w'.cell? ⟨b, off + i * 5, none⟩ = some (.int .i64 x) ∧ w'.cell? ⟨b, off + i * 5 + 1, none⟩ = some (.int .i64 y) ∧ w'.cell? ⟨b, off + i * 5 + 2, none⟩ = some (.slice va n0 vc) ∧ w'.cell? ⟨b, off + i * 5 + 3, none⟩ = some (.int .i64 t) ∧ w'.cell? ⟨b, off + i * 5 + 4, none⟩ = some (.bool sk)) (exact HCX4.out _ (by repeat (first | with_reducible exact Fr.refl _ _ | with_reducible refine Fr.drew ?_ | with_reducible refine Fr.trans ?_ hf8 (fun _ _ hh => hh.elim) | with_reducible refine Fr.trans ?_ hf7 (fun _ _ hh => hh)))) (first | (go_at_call 13; refine (HBk4.out _ (by repeat (first | with_reducible exact Fr.refl _ _ | with_reducible refine Fr.drew ?_))).mono ?_; rintro e w7 ⟨rfl, hf7⟩) | (go_at_call 14; refine (HEq.out _ (by repeat (first | with_reducible exact Fr.refl _ _ | with_reducible refine Fr.drew ?_ | with_reducible refine Fr.trans ?_ hf7 (fun _ _ hh => hh)))).mono ?_; rintro e w8 ⟨rfl, hf8⟩))
          have HF8 : Hid (Fr (fun _ => False) w w8) := by
            have hg := HG2.out
            have hw := HFr.out.size
            refine Fr.trans (T := fun k => k = g) (HFr.out.trans (HF2.out.trans HFA4.out (fun _ _ h => h)) (fun _ _ h => h)) (((Fr.refl (fun k => k = g) w4).drew.trans hf7 (fun _ _ h => h)).trans hf8 (fun _ _ h => h.elim)) (fun i hi e => by omega)
          clear hf7 hf8
          go_wp2_with fail
          exact ⟨⟨i + 1, by omega, by rw [Int.natCast_add]; rfl, HF8.out⟩, by simp only [intOf]; omega⟩
      · have hdn : decide ((i : Int) < (n : Int)) = true := decide_eq_true (by omega)
        have hd6 : decide ((i : Int) < 6) = false := decide_eq_false (by omega)
        go_wp2_with fail
        refine (wakes7 _).mono ?_
        rintro e w9 ⟨rfl, hf9⟩
        have HF9 : Hid (Fr (fun _ => False) w w9) := HFr.out.trans hf9 (fun _ _ h => h)
        clear hf9
        go_wp2_with fail
        go_ret
        exact ⟨rfl, HF9.out⟩
    · have hdn : decide ((i : Int) < (n : Int)) = false := decide_eq_false (by omega)
      go_wp2_with fail
      refine (wakes7 _).mono ?_
      rintro e w9 ⟨rfl, hf9⟩
      have HF9 : Hid (Fr (fun _ => False) w w9) := HFr.out.trans hf9 (fun _ _ h => h)
      clear hf9
      go_wp2_with fail
      go_ret
      exact ⟨rfl, HF9.out⟩

end Go.Proofs.Ytkggdnkmaldmlaa
